/-
  Small words shared by the proofs of this seat: worlds that only grow, texts as lists of octets, slices of texts. Versions: as values, as cells, as slices; what may be. Slices of versions: as they lie in memory, made by a call, and opened as arguments. Contracts of the document's without, Check, Find, Same. Contracts of the statements' One and Few, and of the document's Same. Worlds of which nothing but the tape has gone on. Contract of the document's Same. Items and changes: as values, as cells, as slices that are read, as rows that a call makes. The order of texts (stage 11).
-/
import Derived.Test.YtbilnomafloopaaGreatRows
import Derived.WalkKit
import Derived.ProofKit
import Derived.WalkSpells
import Derived.Below
import Derived.Lib.Hide
import Derived.Deep.QuietTactic
import Derived.BigQuiet
import Derived.RegionTactic
import Derived.WalkSmall
import Derived.OwnWalk
import Derived.OneCell
import Derived.Laws.OwnMore
import Derived.Laws.EntriesVeiled
import Derived.Laws.IdiomStrings
import Derived.Lib.AppendStr
import Derived.Lib.UnsafeStr
import Derived.Deep.AppendLies
import Derived.OpenShut
import Derived.ShutString
import Derived.ChangeOld
import Derived.ChangeSlices
import Derived.Lib.SmallJoins
import Derived.Deep.Slices
import Derived.Carry
import Derived.Laws.ResultCell
import Derived.Lib.AppendZerosOnto
import Derived.Lib.SliceRun
import Derived.Laws.AppendOwnNone
namespace Go.Proofs.YtbilnomafloopaaGreat
set_option maxRecDepth 100000
open Go.ChangeShapes Go.WideShapes Go.ChangeAt Go.RowKit
/-- What the walk puts in order behind each operation that is taken. -/
theorem PS {α : Type} : (∀ (l : List α) (i : Nat) (h : i < l.toArray.size), l.toArray[i]'h = l[i]'(by simpa using h)) ∧ (∀ (a : α) (l : List α) (h : 0 < (a :: l).length), (a :: l)[0]'h = a) ∧ (∀ (a : α) (l : List α) (i : Nat) (h : i + 1 < (a :: l).length), (a :: l)[i + 1]'h = l[i]'(Nat.lt_of_succ_lt_succ h)) ∧ (∀ (l : List α) (i : Nat) (a : α), l.toArray.setIfInBounds i a = (l.set i a).toArray) ∧ (∀ (x y : α) (l : List α), (x :: l).set 0 y = y :: l) ∧ (∀ (x y : α) (l : List α) (i : Nat), (x :: l).set (i + 1) y = x :: l.set i y) :=
  ⟨fun _ _ _ => List.getElem_toArray _, fun _ _ _ => rfl, fun _ _ _ _ => rfl, fun _ _ _ => List.setIfInBounds_toArray .., fun _ _ _ => rfl, fun _ _ _ _ => rfl⟩
/-- Nothing that was there has changed; memory may have grown. -/
def Q (w w' : World) : Prop := Below w.heap.size w w'
theorem Q.refl (w : World) : Q w w := Below.refl _ _
theorem Q.trans {a b c : World} (h : Q a b) (k : Q b c) : Q a c := Below.trans h (Below.mono k h.size)
theorem Q.drew {a b : World} (h : Q a b) : Q a b.drew := Below.drew h
theorem Q.alloc {a b : World} (h : Q a b) (o : Obj) : Q a (b.alloc o) := Below.alloc h h.size o
theorem Q.drewN {a b : World} (h : Q a b) (n : Nat) : Q a (b.drewN n) := below_drewN h n
theorem Q.size {a b : World} (h : Q a b) : a.heap.size ≤ b.heap.size := Below.size h
theorem ret_str {a b : ByteArray} (h : a = b) : Ending.returned (.string a) = .returned (.string b) := by rw [h]
theorem ret_bool {a b : Bool} (h : a = b) : Ending.returned (.bool a) = .returned (.bool b) := by rw [h]
/-- A text's octets, and the text of octets. -/
def bl (s : ByteArray) : List UInt8 := s.data.toList
def mk (l : List UInt8) : ByteArray := ⟨l.toArray⟩
theorem bl_mk (l : List UInt8) : bl (mk l) = l := rfl
theorem mk_bl (s : ByteArray) : mk (bl s) = s := rfl
theorem bl_length (s : ByteArray) : (bl s).length = s.size := Array.length_toList
theorem mk_size (l : List UInt8) : (mk l).size = l.length := by rw [← bl_length, bl_mk]
theorem bl_inj {a b : ByteArray} (h : bl a = bl b) : a = b := by rw [← mk_bl a, ← mk_bl b, h]
theorem bl_append (a b : ByteArray) : bl (a ++ b) = bl a ++ bl b := by simp [bl]
theorem bl_extract (s : ByteArray) (i j : Nat) : bl (s.extract i j) = ((bl s).drop i).take (j - i) := by
  simp [bl]
theorem toList_bl (s : ByteArray) : s.toList = bl s := ByteArray.toList_eq s
theorem cut_cut (s : ByteArray) {a b c d : Nat} : (s.extract a b).extract c d = s.extract (a + c) (min (a + d) b) := by
  apply bl_inj
  simp only [bl_extract, List.drop_take, List.drop_drop, List.take_take]
  rw [show min (d - c) (b - a - c) = min (a + d) b - (a + c) by omega]
theorem size_cut (s : ByteArray) {a b : Nat} (h : b ≤ s.size) : (s.extract a b).size = b - a := by
  rw [← bl_length, bl_extract, List.length_take, List.length_drop, bl_length]; omega
theorem eq_texts (a b : ByteArray) : (a.toList == b.toList) = decide (a = b) := by
  rw [toList_bl, toList_bl]
  by_cases h : a = b
  · subst h; simp
  · have : ¬ bl a = bl b := fun e => h (bl_inj e)
    simp [h, this]
theorem nil_text (a : ByteArray) : a.toList = [] ↔ a.size = 0 := by
  rw [toList_bl, ← bl_length]; exact List.length_eq_zero_iff.symm
/-- A slice whose elements are these texts; all of it lies below block B. -/
def Txts (w : World) (B : Nat) (v : Value) (l : List ByteArray) : Prop :=
  ∃ A c, v = .slice A l.length c ∧ ∀ k (h : k < l.length), ∃ a : Addr, A = some a ∧ a.block < B ∧ w.cell? (a.add k) = some (.string l[k])
theorem add_block (a : Addr) (n : Nat) : (a.add n).block = a.block := by unfold Addr.add; split <;> rfl
theorem Txts.keep {w w' : World} {B : Nat} {v : Value} {l : List ByteArray} (h : Txts w B v l) (k : ∀ p : Addr, p.block < B → w'.cell? p = w.cell? p) : Txts w' B v l := by
  obtain ⟨A, c, e, f⟩ := h
  refine ⟨A, c, e, fun i hi => ?_⟩
  obtain ⟨a, e1, e2, e3⟩ := f i hi
  exact ⟨a, e1, e2, (k _ (by rw [add_block]; exact e2)).trans e3⟩
theorem Txts.below {w w' : World} {B : Nat} {v : Value} {l : List ByteArray} (h : Txts w B v l) (k : Below B w w') : Txts w' B v l := h.keep fun _ hp => k.cell hp
theorem Txts.more {w : World} {B B' : Nat} {v : Value} {l : List ByteArray} (h : Txts w B v l) (k : B ≤ B') : Txts w B' v l := by
  obtain ⟨A, c, e, f⟩ := h
  refine ⟨A, c, e, fun i hi => ?_⟩
  obtain ⟨a, e1, e2, e3⟩ := f i hi
  exact ⟨a, e1, by omega, e3⟩
theorem Txts.on {w w' : World} {v : Value} {l : List ByteArray} (h : Txts w w.heap.size v l) (k : Q w w') : Txts w' w'.heap.size v l := (h.below k).more k.size
theorem Txts.nil (w : World) (B : Nat) : Txts w B (.slice none 0 0) [] := ⟨none, 0, rfl, fun k h => absurd h (by simp)⟩
/-- A row of texts that the call itself has made. -/
theorem Txts.own {w : World} {base e : Nat} {v : Value} {n : Nat} {l : List ByteArray} (h : w.ownsRow base e 1 v n (l.map Value.string)) : Txts w w.heap.size v l := by
  have hn : n = l.length := by have := h.1; simpa using this.symm
  subst hn
  rcases h.2 with ⟨rfl, h0⟩ | ⟨g, cap, cur, rfl, hb, hg, h1, h2, h3, h4⟩
  · rw [List.length_eq_zero_iff.1 h0]; exact Txts.nil _ _
  · refine ⟨_, _, rfl, fun k hk => ⟨⟨g, 0, none⟩, rfl, lt_of_block hg, ?_⟩⟩
    exact h.cells (g := g) rfl k _ (by simp [hk])
end Go.Proofs.YtbilnomafloopaaGreat

namespace Go.Proofs.YtbilnomafloopaaGreat
set_option maxRecDepth 100000
open Go.ChangeShapes Go.WideShapes Go.ChangeAt Go.RowKit
set_option linter.unusedVariables false
/-- A version. -/
structure Ver where
  id : Nat
  data : ByteArray
  mark : Bool
  tm : Int
/-- A version as a value, and as it lies in memory. -/
def ver (v : Ver) : Value := .agg #[.int .u64 (v.id : Nat), .string v.data, .bool v.mark, .int .i64 v.tm]
def vcells (v : Ver) : List Value := [.int .u64 (v.id : Nat), .string v.data, .bool v.mark, .int .i64 v.tm]
/-- May it be? -/
def mayV (v : Ver) : Bool := decide (v.id ≤ 281474976710655) && decide (v.data.size ≤ 2000) && (!v.mark || decide (v.data.size = 0)) && decide (0 ≤ v.tm) && decide (v.tm ≤ 1099511627775)
theorem mayV_iff {v : Ver} : mayV v = true ↔ v.id ≤ 281474976710655 ∧ v.data.size ≤ 2000 ∧ (v.mark = true → v.data.size = 0) ∧ 0 ≤ v.tm ∧ v.tm ≤ 1099511627775 := by
  unfold mayV
  cases v.mark <;> simp [and_assoc]
theorem emp_no {t : ByteArray} (h : 0 < t.size) : (t.toList == []) = false := by
  have : ¬ t.toList = [] := fun e => by have := (nil_text t).1 e; omega
  simpa using this
theorem emp_no' {t : ByteArray} (h : 0 < t.size) : t.toList.isEmpty = false := by
  cases e : t.toList.isEmpty with
  | false => rfl
  | true => have := (nil_text t).1 (List.isEmpty_iff.1 e); omega
theorem emp_yes {t : ByteArray} (h : t.size = 0) : (t.toList == []) = true := by
  rw [(nil_text t).2 h]; rfl
theorem emp_yes' {t : ByteArray} (h : t.size = 0) : t.toList.isEmpty = true := List.isEmpty_iff.2 ((nil_text t).2 h)
theorem three (t : Int) : ¬ 0 ≤ t ∨ (0 ≤ t ∧ t ≤ 1099511627775) ∨ (0 ≤ t ∧ ¬ t ≤ 1099511627775) := by omega
end Go.Proofs.YtbilnomafloopaaGreat

namespace Go.Proofs.YtbilnomafloopaaGreat
set_option maxRecDepth 100000
open Go.ChangeShapes Go.WideShapes Go.ChangeAt Go.RowKit
set_option linter.unusedVariables false
set_option linter.unusedSimpArgs false
/-- A version lies at p. -/
def At (w : World) (p : Addr) (v : Ver) : Prop :=
  w.cell? p = some (.int .u64 (v.id : Nat)) ∧ w.cell? ⟨p.block, p.off + 1, none⟩ = some (.string v.data) ∧ w.cell? ⟨p.block, p.off + 2, none⟩ = some (.bool v.mark) ∧ w.cell? ⟨p.block, p.off + 3, none⟩ = some (.int .i64 v.tm)
/-- What every version in memory is. -/
def okV (v : Ver) : Prop := v.id < 18446744073709551616 ∧ v.data.size ≤ maxLen ∧ -9223372036854775808 ≤ v.tm ∧ v.tm ≤ 9223372036854775807
/-- A slice whose elements are these versions; all of it lies below block B. -/
def Vers (w : World) (B : Nat) (v : Value) (l : List Ver) : Prop :=
  ∃ A c, v = .slice A l.length c ∧ l.length ≤ c ∧ (A = none → c = 0) ∧ (∀ x ∈ l, okV x) ∧ ∀ k (h : k < l.length), ∃ a : Addr, A = some a ∧ a.block < B ∧ At w (a.add (k * 4)) l[k]
theorem add_pos (p : Addr) {k : Nat} (h : 0 < k) : p.add k = ⟨p.block, p.off + k, none⟩ := by
  unfold Addr.add; rw [if_neg (by omega)]
theorem At.keep {w w' : World} {p : Addr} {v : Ver} (h : At w p v) {B : Nat} (hp : p.block < B) (k : ∀ p : Addr, p.block < B → w'.cell? p = w.cell? p) : At w' p v :=
  ⟨(k p hp).trans h.1, (k ⟨p.block, p.off + 1, none⟩ hp).trans h.2.1, (k ⟨p.block, p.off + 2, none⟩ hp).trans h.2.2.1, (k ⟨p.block, p.off + 3, none⟩ hp).trans h.2.2.2⟩
theorem Vers.keep {w w' : World} {B : Nat} {v : Value} {l : List Ver} (h : Vers w B v l) (k : ∀ p : Addr, p.block < B → w'.cell? p = w.cell? p) : Vers w' B v l := by
  obtain ⟨A, c, e, e0, ez, eo, f⟩ := h
  refine ⟨A, c, e, e0, ez, eo, fun i hi => ?_⟩
  obtain ⟨a, e1, e2, e3⟩ := f i hi
  exact ⟨a, e1, e2, e3.keep (by rw [add_block]; exact e2) k⟩
theorem Vers.below {w w' : World} {B : Nat} {v : Value} {l : List Ver} (h : Vers w B v l) (k : Below B w w') : Vers w' B v l := h.keep fun _ hp => k.cell hp
theorem Vers.more {w : World} {B B' : Nat} {v : Value} {l : List Ver} (h : Vers w B v l) (k : B ≤ B') : Vers w B' v l := by
  obtain ⟨A, c, e, e0, ez, eo, f⟩ := h
  refine ⟨A, c, e, e0, ez, eo, fun i hi => ?_⟩
  obtain ⟨a, e1, e2, e3⟩ := f i hi
  exact ⟨a, e1, by omega, e3⟩
theorem Vers.on {w w' : World} {v : Value} {l : List Ver} (h : Vers w w.heap.size v l) (k : Q w w') : Vers w' w'.heap.size v l := (h.below k).more k.size
theorem Vers.nil (w : World) (B : Nat) : Vers w B (.slice none 0 0) [] := ⟨none, 0, rfl, Nat.le_refl _, fun _ => rfl, by simp, fun k h => absurd h (by simp)⟩
theorem list_of {α : Type} {P : Nat → α → Prop} (n : Nat) (h : ∀ i, i < n → ∃ x, P i x) : ∃ l : List α, l.length = n ∧ ∀ i (hi : i < l.length), P i l[i] := by
  induction n with
  | zero => exact ⟨[], rfl, fun i hi => absurd hi (by simp)⟩
  | succ n ih =>
    obtain ⟨l, hl, hp⟩ := ih fun i hi => h i (by omega)
    obtain ⟨x, hx⟩ := h n (by omega)
    refine ⟨l ++ [x], by simp [hl], fun i hi => ?_⟩
    by_cases hin : i < l.length
    · rw [List.getElem_append_left hin]; exact hp i hin
    · have : i = n := by simp at hi; omega
      subst this
      rw [List.getElem_append_right (by omega)]
      simpa [hl] using hx
theorem own : ownKnob Tryz.prog.godebug = none := by kernel_rfl
theorem laid : laidOutB Tryz.prog = true := by kernel_rfl
theorem cells_ver : Tryz.prog.cellsOf 81 = 4 := by kernel_rfl
theorem wf64 {a : Int} (h : (Lit.int .i64 a).wf = true) : -9223372036854775808 ≤ a ∧ a ≤ 9223372036854775807 := by
  simpa [Lit.wf, IntKind.min, IntKind.max, IntKind.signed, IntKind.bits] using h
theorem wfu64 {a : Int} (h : (Lit.int .u64 a).wf = true) : ∃ n : Nat, a = n ∧ n < 18446744073709551616 := by
  have h2 : 0 ≤ a ∧ a ≤ 18446744073709551615 := by simpa [Lit.wf, IntKind.min, IntKind.max, IntKind.signed, IntKind.bits] using h
  exact ⟨a.toNat, by omega, by omega⟩
theorem info_ver : (Tryz.prog.info? 81).map (fun i => (i.zero, i.size, i.bytes)) = some (some (.agg #[.int .u64 0, .string ⟨#[]⟩, .bool false, .int .i64 0]), 4, 40) := by kernel_rfl
/-- v is a row of the call's own, from block base on, of these versions. -/
def OwnV (base : Nat) (w : World) (v : Value) (l : List Ver) : Prop := w.ownsRow base 81 4 v l.length (l.flatMap vcells)
theorem OwnV.nil (base : Nat) (w : World) : OwnV base w (.slice none 0 0) [] := World.ownsRow_nil w _ _ _
theorem flat_vcells (l : List Ver) : (l.flatMap vcells).length = l.length * 4 := by
  induction l with
  | nil => rfl
  | cons x r ih => rw [List.flatMap_cons, List.length_append, ih, List.length_cons, show (vcells x).length = 4 by rfl]; omega
theorem flat_at (l : List Ver) (k : Nat) (h : k < l.length) {j : Nat} (hj : j < 4) : (l.flatMap vcells)[k * 4 + j]? = (vcells l[k])[j]? := by
  induction l generalizing k with
  | nil => simp at h
  | cons x r ih =>
    rw [List.flatMap_cons]
    cases k with
    | zero => rw [List.getElem?_append_left (by rw [show (vcells x).length = 4 by rfl]; omega)]; simp
    | succ k =>
      rw [List.getElem?_append_right (by rw [show (vcells x).length = 4 by rfl]; omega), show (k + 1) * 4 + j - (vcells x).length = k * 4 + j by rw [show (vcells x).length = 4 by rfl]; omega, ih k (by simpa using h)]
      rfl
theorem OwnV.vers {base : Nat} {w : World} {v : Value} {l : List Ver} (h : OwnV base w v l) (hl : ∀ x ∈ l, okV x) : Vers w w.heap.size v l := by
  rcases h.2 with ⟨rfl, h0⟩ | ⟨g, cap, cur, rfl, hb, hg, h1, h2, h3, h4⟩
  · rw [List.length_eq_zero_iff.1 h0]; exact Vers.nil _ _
  · refine ⟨_, _, rfl, h1, (by simp), hl, fun k hk => ⟨⟨g, 0, none⟩, rfl, lt_of_block hg, ?_⟩⟩
    have hc : ∀ j, j < 4 → w.cell? ((⟨g, 0, none⟩ : Addr).add (k * 4 + j)) = (vcells l[k])[j]? := by
      intro j hj
      have := flat_at l k hk hj
      obtain ⟨u, hu⟩ : ∃ u, (vcells l[k])[j]? = some u := ⟨_, List.getElem?_eq_getElem (by rw [show (vcells l[k]).length = 4 by rfl]; exact hj)⟩
      rw [hu] at this ⊢
      exact World.ownsRow.cells h (g := g) rfl _ _ this
    have ha : ∀ j, 0 < j → (⟨g, 0, none⟩ : Addr).add (k * 4 + j) = ⟨((⟨g, 0, none⟩ : Addr).add (k * 4)).block, ((⟨g, 0, none⟩ : Addr).add (k * 4)).off + j, none⟩ := by
      intro j hj
      rw [add_pos _ (by omega), add_block]
      unfold Addr.add
      split
      · rename_i h0; simp [h0]
      · simp [Nat.add_assoc]
    refine ⟨hc 0 (by omega), ?_, ?_, ?_⟩
    · rw [← ha 1 (by omega)]; exact hc 1 (by omega)
    · rw [← ha 2 (by omega)]; exact hc 2 (by omega)
    · rw [← ha 3 (by omega)]; exact hc 3 (by omega)
theorem OwnV.on {base : Nat} {w w' : World} {v : Value} {l : List Ver} (h : OwnV base w v l) (q : Q w w') : OwnV base w' v l := by
  rcases h.2 with ⟨rfl, h0⟩ | ⟨g, cap, cur, rfl, hb, hg, h1, h2, h3, h4⟩
  · exact ⟨h.1, .inl ⟨rfl, h0⟩⟩
  · exact ⟨h.1, .inr ⟨g, cap, cur, rfl, hb, (q.block g (lt_of_block hg)).trans hg, h1, h2, h3, h4⟩⟩
theorem vcells_one (x : Ver) : ∀ u ∈ vcells x, u.oneCell' = true := by
  intro u hu
  simp [vcells] at hu
  rcases hu with rfl | rfl | rfl | rfl <;> rfl
theorem OwnV.onto {base k : Nat} {w2 : World} {v2 : Value} {L M : List Ver} (h1 : w2.ownsRow base 81 4 v2 (L.length + k) (L.flatMap vcells ++ M.flatMap vcells)) (hk : k = M.length) : OwnV base w2 v2 (L ++ M) := by
  subst hk
  unfold OwnV
  rw [List.flatMap_append, List.length_append]
  exact h1
theorem ownV_grown {base : Nat} {w0 wr w2 : World} {v : Value} {L : List Ver} (hbel : Below base w0 wr) (hb : base ≤ wr.heap.size) (hown : OwnV base wr v L) (h2 : wr.grownBy w2 v.ownBlock) : Below base w0 w2 :=
  hbel.grown h2 hb (fun k hk => (World.ownsRow.lt hown k hk).1)
theorem cells_one (w : World) (x : Ver) (t : TypeId) : ∀ j u, (vcells x)[j]? = some u → (w.alloc (.cells (vcells x).toArray t)).cell? ((⟨w.heap.size, 0, none⟩ : Addr).add j) = some u := by
  intro j u hj
  obtain ⟨hj2, rfl⟩ := List.getElem?_eq_some_iff.1 hj
  match j, hj2 with
  | 0, _ => simp [Addr.add, vcells]
  | 1, _ => simp [Addr.add, vcells]
  | 2, _ => simp [Addr.add, vcells]
  | 3, _ => simp [Addr.add, vcells]
end Go.Proofs.YtbilnomafloopaaGreat

namespace Go.Proofs.YtbilnomafloopaaGreat
set_option maxRecDepth 100000
open Go.ChangeShapes Go.WideShapes Go.ChangeAt Go.RowKit
set_option linter.unusedVariables false
/-- The chain without a version. -/
def woV (l : List Ver) (id : Nat) : List Ver := l.filter fun x => decide (x.id ≠ id)
end Go.Proofs.YtbilnomafloopaaGreat

namespace Go.Proofs.YtbilnomafloopaaGreat
set_option maxRecDepth 100000
open Go.ChangeShapes Go.WideShapes Go.ChangeAt Go.RowKit
set_option linter.unusedVariables false
/-- One, and Few. -/
def oneV (v : Ver) : Ver := if 2001 < v.data.size then { v with data := v.data.extract 0 2001 } else v
theorem oneV_ok {v : Ver} (h : okV v) : okV (oneV v) := by
  unfold oneV
  split
  · refine ⟨h.1, ?_, h.2.2⟩
    show (v.data.extract 0 2001).size ≤ maxLen
    rw [size_cut _ (by omega)]; unfold maxLen; omega
  · exact h
theorem oneV_size (v : Ver) : (oneV v).data.size ≤ 2001 := by
  unfold oneV
  split
  · show (v.data.extract 0 2001).size ≤ 2001
    rw [size_cut _ (by omega)]; omega
  · omega
def fewV (l : List Ver) : List Ver := (l.take 21).map oneV
theorem Q.set {a b : World} (h : Q a b) {g k : Nat} (hg : a.heap.size ≤ g) (u : Value) : Q a (b.setCell ⟨g, k, none⟩ u) := Below.setCell h hg u
set_option maxHeartbeats 1000000 in
theorem one_any (v : Ver) (w : World) (h : okV v) :
    Calls Tryz.prog 152 #[ver v] w fun e w' => e = .returned (ver (oneV v)) ∧ Q w w' := by
  obtain ⟨h1, h2, h3⟩ := h
  unfold maxLen at h2
  obtain ⟨i, d, m, t⟩ := v
  simp only at h1 h2 h3
  by_cases hb : 2001 < d.size
  · have HV : Hid (oneV ⟨i, d, m, t⟩ = ⟨i, d.extract 0 2001, m, t⟩) := Lib.hid (by rw [oneV, if_pos hb])
    rw [ver]
    simp only
    have hb2 : (2001 : Int) < (d.size : Int) := by omega
    go_enter Tryz.func152, Tryz.ntmps152
    go_wp2
    (try simp only [Exit.inBlock, Exit.then])
    refine bodyPost_ret (v := .agg #[.int .u64 (i : Nat), .string (d.extract 0 2001), .bool m, .int .i64 t]) ?_ rfl ?_
    · simp [results, Tryz.results152, go_sem]
    · exact ⟨by rw [HV.out]; rfl, ((Q.refl w).alloc _).alloc _⟩
  · have HV : Hid (oneV ⟨i, d, m, t⟩ = ⟨i, d, m, t⟩) := Lib.hid (by rw [oneV, if_neg hb])
    rw [ver]
    simp only
    have hb2 : ¬ (2001 : Int) < (d.size : Int) := by omega
    go_enter Tryz.func152, Tryz.ntmps152
    go_wp2
    (try simp only [Exit.inBlock, Exit.then])
    refine bodyPost_ret (v := .agg #[.int .u64 (i : Nat), .string d, .bool m, .int .i64 t]) ?_ rfl ?_
    · simp [results, Tryz.results152, go_sem]
    · exact ⟨by rw [HV.out]; rfl, ((Q.refl w).alloc _).alloc _⟩
theorem few_take (l : List Ver) (i : Nat) (h : i < l.length) : (l.take (i + 1)).map oneV = (l.take i).map oneV ++ [oneV l[i]] := by
  rw [List.take_succ_eq_append_getElem h, List.map_append]; rfl
set_option maxHeartbeats 2000000 in
theorem few_any (l : List Ver) (v : Value) (w : World) (hl : l.length ≤ maxLen) (ht : Vers w w.heap.size v l) :
    Calls Tryz.prog 97 #[v] w fun e w' => ∃ v', e = .returned v' ∧ OwnV w.heap.size w' v' (fewV l) ∧ Q w w' := by
  obtain ⟨A, c, rfl, -, -, hok, hcells⟩ := ht
  unfold maxLen at hl
  have HC := Lib.hid hcells
  have HK := Lib.hid hok
  clear hcells hok
  obtain ⟨i0, hi, hz0, hz1, hz2⟩ := info_parts info_ver
  go_enter Tryz.func97, Tryz.ntmps97
  go_wp2_with fail
  go_loopw [3, 4] (fun O I wr => ∃ i : Nat, i ≤ l.length ∧ i ≤ 21 ∧ I = .int .i64 i ∧ OwnV w.heap.size wr O ((l.take i).map oneV) ∧ Below w.heap.size w wr) (fun _ I _ => 21 - (intOf I).toNat)
  case atStart => exact ⟨0, Nat.zero_le _, by omega, rfl, OwnV.nil _ _, Below.refl _ _⟩
  case round =>
    obtain ⟨i, hil, hi21, rfl, hown, hbel⟩ := hrel
    by_cases hlt : i < l.length
    · by_cases h21 : i < 21
      · obtain ⟨a, rfl, ha, hat⟩ := HC.out i hlt
        obtain ⟨c0, c1, c2, c3⟩ := hat.keep (by rw [add_block]; exact ha) fun _ hp => hbel.cell hp
        clear hat
        have HW := Lib.hid (few_take l i hlt)
        have hx0 := HK.out _ (List.getElem_mem hlt)
        have hlen : ((l.take i).map oneV).length ≤ 21 := by rw [List.length_map, List.length_take]; omega
        obtain ⟨x, hx⟩ : ∃ x, x = l[i] := ⟨_, rfl⟩
        rw [← hx] at c0 c1 c2 c3 HW hx0
        clear hx
        have hs := hbel.size
        have C := Lib.hid fun w => one_any x w hx0
        rw [ver] at C
        go_wp2_with fail
        refine (C.out _).mono ?_
        rintro e w1 ⟨rfl, q1⟩
        have bel1 : Below w.heap.size w w1 := hbel.trans (Below.mono q1 hs)
        have hown1 : OwnV w.heap.size w1 _ _ := OwnV.on hown q1
        have hs1 := bel1.size
        rw [ver]
        go_wp2_with (first | (at_builtin; refine wpList_append_own _ rfl _ _ 61 rfl w.heap.size 81 i0 (.agg #[.int .u64 0, .string ⟨#[]⟩, .bool false, .int .i64 0]) 4 40 Tryz.underlying61 hi hz0 hz1 hz2 rfl (by decide) _ _ _ rfl (World.ownsRow.alloc hown1 _) ⟨w1.heap.size, 0, none⟩ 1 1 (vcells (oneV x)) rfl rfl (cells_one _ _ _) (vcells_one _) (by unfold maxLen; omega) (by omega) (by simp; omega) ?_; intro v1 w2 h1 h2 _; have r1 : OwnV w.heap.size w2 v1 ((l.take i).map oneV ++ [oneV x]) := OwnV.onto (M := [oneV x]) (by simpa using h1) rfl; have b1 := ownV_grown (bel1.alloc hs1 _) (by simp; omega) (World.ownsRow.alloc hown1 _) h2; rw [← HW.out] at r1; clear h1 h2))
        go_roundw
        case rel => exact ⟨i + 1, by omega, by omega, by go_num, r1, b1⟩
        case measure => simp [intOf]; omega
      · have HW : Hid (fewV l = (l.take i).map oneV) := Lib.hid (by rw [fewV, show i = 21 by omega])
        have h2 : ¬ (i : Int) < 21 := by omega
        go_wp2
        go_ret
        exact ⟨_, rfl, by rw [HW.out]; exact hown, hbel⟩
    · have HW : Hid (fewV l = (l.take i).map oneV) := Lib.hid (by rw [fewV, List.take_of_length_le (by omega), List.take_of_length_le (by omega)])
      have h2 : ¬ (i : Int) < (l.length : Int) := by omega
      go_wp2
      go_ret
      exact ⟨_, rfl, by rw [HW.out]; exact hown, hbel⟩
end Go.Proofs.YtbilnomafloopaaGreat

namespace Go.Proofs.YtbilnomafloopaaGreat
set_option maxRecDepth 100000
open Go.ChangeShapes Go.WideShapes Go.ChangeAt Go.RowKit
set_option linter.unusedVariables false
/-- Nothing but the tape has gone on. -/
def D (w w' : World) : Prop := ∃ m, w' = w.drewN m
theorem D.refl (w : World) : D w w := ⟨0, rfl⟩
theorem D.drew {a b : World} (h : D a b) : D a b.drew := by obtain ⟨m, rfl⟩ := h; exact ⟨m + 1, rfl⟩
theorem D.drewN {a b : World} (h : D a b) (n : Nat) : D a (b.drewN n) := by obtain ⟨m, rfl⟩ := h; exact ⟨m + n, World.drewN_drewN _ _ _⟩
theorem D.trans {a b c : World} (h : D a b) (k : D b c) : D a c := by obtain ⟨m, rfl⟩ := h; obtain ⟨n, rfl⟩ := k; exact ⟨m + n, World.drewN_drewN _ _ _⟩
theorem D.q {a b : World} (h : D a b) : Q a b := by obtain ⟨m, rfl⟩ := h; exact (Q.refl a).drewN m
theorem quiet_left {P : Program} {f : FuncId} {args : Array Value} {w : World} {n : Nat} {v : Value}
    (h : Calls P f args (w.drewN n) fun e w' => e = .returned v ∧ w.drewN n = w') : Calls P f args (w.drewN n) fun e w'' => e = .returned v ∧ ∃ m, w'' = w.drewN m :=
  h.mono fun _ _ ⟨he, hm⟩ => ⟨he, n, hm.symm⟩
end Go.Proofs.YtbilnomafloopaaGreat

namespace Go.Proofs.YtbilnomafloopaaGreat
set_option maxRecDepth 100000
open Go.ChangeShapes Go.WideShapes Go.ChangeAt Go.RowKit
set_option linter.unusedVariables false
set_option linter.unusedSimpArgs false
/-- sameP: Same's answer. -/
def sameP (a b : List Ver) (A : Bool) : Prop := (A = true ∧ a = b) ∨ (A = false ∧ a ≠ b)
end Go.Proofs.YtbilnomafloopaaGreat

namespace Go.Proofs.YtbilnomafloopaaGreat
set_option maxRecDepth 100000
open Go.ChangeShapes Go.WideShapes Go.ChangeAt Go.RowKit
set_option linter.unusedVariables false
set_option linter.unusedSimpArgs false
set_option maxRecDepth 100000
/-- cellarer/api.Item, as a value, and as it lies in memory. -/
structure Itm where
  n : ByteArray
  val : ByteArray
def itm (v : Itm) : Value := .agg #[.string v.n, .string v.val]
def icl (v : Itm) : List Value := [.string v.n, .string v.val]
def okIZ (v : Itm) : Prop := v.n.size ≤ maxLen ∧ v.val.size ≤ maxLen
/-- It lies at p. -/
def AtI (w : World) (p : Addr) (v : Itm) : Prop :=
  w.cell? p = some (.string v.n) ∧ w.cell? ⟨p.block, p.off + 1, none⟩ = some (.string v.val)
/-- A slice whose elements are these; all of it lies below block B. -/
def Itms (w : World) (B : Nat) (v : Value) (l : List Itm) : Prop :=
  ∃ A c, v = .slice A l.length c ∧ l.length ≤ c ∧ (A = none → c = 0) ∧ (∀ x ∈ l, okIZ x) ∧ ∀ k (h : k < l.length), ∃ a : Addr, A = some a ∧ a.block < B ∧ AtI w (a.add (k * 2)) l[k]
theorem AtI.keep {w w' : World} {p : Addr} {v : Itm} (h : AtI w p v) {B : Nat} (hp : p.block < B) (k : ∀ p : Addr, p.block < B → w'.cell? p = w.cell? p) : AtI w' p v :=
  ⟨(k p hp).trans h.1, (k ⟨p.block, p.off + 1, none⟩ hp).trans h.2⟩
theorem Itms.keep {w w' : World} {B : Nat} {v : Value} {l : List Itm} (h : Itms w B v l) (k : ∀ p : Addr, p.block < B → w'.cell? p = w.cell? p) : Itms w' B v l := by
  obtain ⟨A, c, e, e0, ez, eo, f⟩ := h
  refine ⟨A, c, e, e0, ez, eo, fun i hi => ?_⟩
  obtain ⟨a, e1, e2, e3⟩ := f i hi
  exact ⟨a, e1, e2, e3.keep (by rw [add_block]; exact e2) k⟩
theorem Itms.below {w w' : World} {B : Nat} {v : Value} {l : List Itm} (h : Itms w B v l) (k : Below B w w') : Itms w' B v l := h.keep fun _ hp => k.cell hp
theorem Itms.more {w : World} {B B' : Nat} {v : Value} {l : List Itm} (h : Itms w B v l) (k : B ≤ B') : Itms w B' v l := by
  obtain ⟨A, c, e, e0, ez, eo, f⟩ := h
  refine ⟨A, c, e, e0, ez, eo, fun i hi => ?_⟩
  obtain ⟨a, e1, e2, e3⟩ := f i hi
  exact ⟨a, e1, by omega, e3⟩
theorem Itms.on {w w' : World} {v : Value} {l : List Itm} (h : Itms w w.heap.size v l) (k : Q w w') : Itms w' w'.heap.size v l := (h.below k).more k.size
theorem Itms.nil (w : World) (B : Nat) : Itms w B (.slice none 0 0) [] := ⟨none, 0, rfl, Nat.le_refl _, fun _ => rfl, by simp, fun k h => absurd h (by simp)⟩
theorem Itms.okAll {w : World} {B : Nat} {v : Value} {l : List Itm} (h : Itms w B v l) : ∀ x ∈ l, okIZ x := by
  obtain ⟨A, c, e, e0, ez, eo, f⟩ := h; exact eo
theorem Itms.form {w : World} {B : Nat} {v : Value} {l : List Itm} (h : Itms w B v l) : ∃ A c, v = .slice A l.length c := by
  obtain ⟨A, c, e, -⟩ := h; exact ⟨A, c, e⟩
/-- One of a slice, as it lies in every later world. -/
theorem Itms.pick {w : World} {v : Value} {l : List Itm} (h : Itms w w.heap.size v l) (i : Nat) (hi : i < l.length) :
    ∃ (a : Addr) (c : Nat), v = .slice (some a) l.length c ∧ a.block < w.heap.size ∧ okIZ l[i] ∧ ∀ d, Q w d → AtI d (a.add (i * 2)) l[i] := by
  obtain ⟨A, c, rfl, -, -, eo, f⟩ := h
  obtain ⟨a, rfl, ha, h1⟩ := f i hi
  exact ⟨a, c, rfl, ha, eo _ (List.getElem_mem hi), fun d q => h1.keep (by rw [add_block]; exact ha) fun _ hp => q.cell hp⟩
theorem info_itm : (Tryz.prog.info? 68).map (fun i => (i.zero, i.size, i.bytes)) = some (some (.agg #[.string ⟨#[]⟩, .string ⟨#[]⟩]), 2, 32) := by kernel_rfl
/-- v is a row of the call's own, from block base on, of these. -/
def OwnI (base : Nat) (w : World) (v : Value) (l : List Itm) : Prop := w.ownsRow base 68 2 v l.length (l.flatMap icl)
theorem OwnI.nil (base : Nat) (w : World) : OwnI base w (.slice none 0 0) [] := World.ownsRow_nil w _ _ _
theorem flat_icl (l : List Itm) : (l.flatMap icl).length = l.length * 2 := by
  induction l with
  | nil => rfl
  | cons x r ih => rw [List.flatMap_cons, List.length_append, ih, List.length_cons, show (icl x).length = 2 by rfl]; omega
theorem flat_atitm (l : List Itm) (k : Nat) (h : k < l.length) {j : Nat} (hj : j < 2) : (l.flatMap icl)[k * 2 + j]? = (icl l[k])[j]? := by
  induction l generalizing k with
  | nil => simp at h
  | cons x r ih =>
    rw [List.flatMap_cons]
    cases k with
    | zero => rw [List.getElem?_append_left (by rw [show (icl x).length = 2 by rfl]; omega)]; simp
    | succ k =>
      rw [List.getElem?_append_right (by rw [show (icl x).length = 2 by rfl]; omega), show (k + 1) * 2 + j - (icl x).length = k * 2 + j by rw [show (icl x).length = 2 by rfl]; omega, ih k (by simpa using h)]
      rfl
theorem OwnI.read {base : Nat} {w : World} {v : Value} {l : List Itm} (h : OwnI base w v l) (hl : ∀ x ∈ l, okIZ x) : Itms w w.heap.size v l := by
  rcases h.2 with ⟨rfl, h0⟩ | ⟨g, cap, cur, rfl, hb, hg, h1, h2, h3, h4⟩
  · rw [List.length_eq_zero_iff.1 h0]; exact Itms.nil _ _
  · refine ⟨_, _, rfl, h1, (by simp), hl, fun k hk => ⟨⟨g, 0, none⟩, rfl, lt_of_block hg, ?_⟩⟩
    have hc : ∀ j, j < 2 → w.cell? ((⟨g, 0, none⟩ : Addr).add (k * 2 + j)) = (icl l[k])[j]? := by
      intro j hj
      have := flat_atitm l k hk hj
      obtain ⟨u, hu⟩ : ∃ u, (icl l[k])[j]? = some u := ⟨_, List.getElem?_eq_getElem (by rw [show (icl l[k]).length = 2 by rfl]; exact hj)⟩
      rw [hu] at this ⊢
      exact World.ownsRow.cells h (g := g) rfl _ _ this
    have ha : ∀ j, 0 < j → (⟨g, 0, none⟩ : Addr).add (k * 2 + j) = ⟨((⟨g, 0, none⟩ : Addr).add (k * 2)).block, ((⟨g, 0, none⟩ : Addr).add (k * 2)).off + j, none⟩ := by
      intro j hj
      rw [add_pos _ (by omega), add_block]
      unfold Addr.add
      split
      · rename_i h0; simp [h0]
      · simp [Nat.add_assoc]
    refine ⟨hc 0 (by omega), ?_⟩
    · rw [← ha 1 (by omega)]; exact hc 1 (by omega)
theorem OwnI.on {base : Nat} {w w' : World} {v : Value} {l : List Itm} (h : OwnI base w v l) (q : Q w w') : OwnI base w' v l := by
  rcases h.2 with ⟨rfl, h0⟩ | ⟨g, cap, cur, rfl, hb, hg, h1, h2, h3, h4⟩
  · exact ⟨h.1, .inl ⟨rfl, h0⟩⟩
  · exact ⟨h.1, .inr ⟨g, cap, cur, rfl, hb, (q.block g (lt_of_block hg)).trans hg, h1, h2, h3, h4⟩⟩
theorem OwnI.low {base b2 : Nat} {w : World} {v : Value} {l : List Itm} (h : OwnI base w v l) (k : b2 ≤ base) : OwnI b2 w v l := by
  rcases h.2 with ⟨rfl, h0⟩ | ⟨g, cap, cur, rfl, hb, r⟩
  · exact ⟨h.1, .inl ⟨rfl, h0⟩⟩
  · exact ⟨h.1, .inr ⟨g, cap, cur, rfl, by omega, r⟩⟩
theorem OwnI.form {base : Nat} {w : World} {v : Value} {l : List Itm} (h : OwnI base w v l) : ∃ A c, v = .slice A l.length c := by
  rcases h.2 with ⟨rfl, h0⟩ | ⟨g, cap, cur, rfl, -⟩
  · exact ⟨none, 0, by rw [h0]⟩
  · exact ⟨_, _, rfl⟩
theorem icl_one (x : Itm) : ∀ u ∈ icl x, u.oneCell' = true := by
  intro u hu
  simp [icl] at hu
  rcases hu with rfl | rfl <;> rfl
theorem flat_oneitm (l : List Itm) : ∀ u ∈ l.flatMap icl, u.oneCell' = true := by
  intro u hu
  obtain ⟨x, -, hx⟩ := List.mem_flatMap.1 hu
  exact icl_one x u hx
theorem OwnI.onto {base k : Nat} {w2 : World} {v2 : Value} {L M : List Itm} (h1 : w2.ownsRow base 68 2 v2 (L.length + k) (L.flatMap icl ++ M.flatMap icl)) (hk : k = M.length) : OwnI base w2 v2 (L ++ M) := by
  subst hk
  unfold OwnI
  rw [List.flatMap_append, List.length_append]
  exact h1
theorem OwnI.grown {base : Nat} {w0 wr w2 : World} {v : Value} {L : List Itm} (hown : OwnI base wr v L) (hbel : Below base w0 wr) (hb : base ≤ wr.heap.size) (h2 : wr.grownBy w2 v.ownBlock) : Below base w0 w2 :=
  hbel.grown h2 hb (fun k hk => (World.ownsRow.lt hown k hk).1)
theorem cells_oneitm (w : World) (x : Itm) (t : TypeId) : ∀ j u, (icl x)[j]? = some u → (w.alloc (.cells (icl x).toArray t)).cell? ((⟨w.heap.size, 0, none⟩ : Addr).add j) = some u := by
  intro j u hj
  obtain ⟨hj2, rfl⟩ := List.getElem?_eq_some_iff.1 hj
  match j, hj2 with
  | 0, _ => simp [Addr.add, icl]
  | 1, _ => simp [Addr.add, icl]
theorem Itms.flat {w : World} {B : Nat} {a : Addr} {n c : Nat} {l : List Itm} (h : Itms w B (.slice (some a) n c) l) : ∀ j u, (l.flatMap icl)[j]? = some u → w.cell? (a.add j) = some u := by
  obtain ⟨A, c', e, -, -, -, f⟩ := h
  injection e with e1 e2 e3
  intro j u hu
  obtain ⟨hj, -⟩ := List.getElem?_eq_some_iff.1 hu
  rw [flat_icl] at hj
  have hk : j / 2 < l.length := by omega
  obtain ⟨a', ea, -, hat⟩ := f (j / 2) hk
  rw [← e1] at ea
  injection ea with ea
  subst ea
  have hj2 : j = j / 2 * 2 + j % 2 := by omega
  rw [hj2, flat_atitm l _ hk (by omega)] at hu
  have hadd : ∀ r, 0 < r → a.add (j / 2 * 2 + r) = ⟨(a.add (j / 2 * 2)).block, (a.add (j / 2 * 2)).off + r, none⟩ := by
    intro r hr
    rw [add_pos _ (by omega), add_block]
    unfold Addr.add
    split
    · simp [*]
    · simp [Nat.add_assoc]
  obtain ⟨c0, c1⟩ := hat
  rw [hj2]
  have hr : j % 2 < 2 := by omega
  match hm : j % 2, hr with
  | 0, _ => rw [hm] at hu; simp [icl] at hu; rw [Nat.add_zero, c0, ← hu]
  | 1, _ => rw [hm] at hu; simp [icl] at hu; rw [hadd 1 (by omega), c1, ← hu]
theorem run_append_itm (w : World) (base B : Nat) (t ty : TypeId) (htt : Tryz.prog.underlying t = some (.slice 68)) (v : Value) (l m : List Itm) {A : Option Addr} {n c : Nat} (h : OwnI base w v l)
    (g : Itms w B (.slice A n c) m) (hb : base ≤ w.heap.size) (hl : l.length + m.length ≤ 4000000) :
    ∃ v' w', (Builtin.append_ #[t, t] ty #[v, .slice A n c]).run Tryz.prog w = .ok v' w' ∧ OwnI base w' v' (l ++ m) ∧ w.grownBy w' v.ownBlock := by
  obtain ⟨i0, hi0, hz0, hz1, hz2⟩ := info_parts info_itm
  have hn : n = m.length := by obtain ⟨A', c', e, -⟩ := g; injection e
  subst hn
  cases A with
  | none =>
    have hm : m = [] := by
      obtain ⟨A', c', e, e0, ez, -, -⟩ := g
      injection e with e1 e2 e3
      have := ez e1.symm
      exact List.length_eq_zero_iff.1 (by omega)
    subst hm
    have hc : c = 0 := by
      obtain ⟨A', c', e, e0, ez, -, -⟩ := g
      injection e with e1 e2 e3
      rw [e3]; exact ez e1.symm
    subst hc
    exact ⟨v, w, run_append_owned_none (P := Tryz.prog) (w := w) base t ty 68 i0 2 htt hi0 v _ _ h, by simpa using h, World.grownBy.refl w _⟩
  | some a =>
    obtain ⟨v', w', h1, h2, h3, -⟩ := run_append_own (P := Tryz.prog) w base t ty 68 i0 (.agg #[.string ⟨#[]⟩, .string ⟨#[]⟩]) 2 32 htt hi0 hz0 hz1 hz2 rfl (by decide) v l.length (l.flatMap icl) h a m.length c (m.flatMap icl) (flat_icl m) g.flat (flat_oneitm m) (by unfold maxLen; omega) (by omega) hb
    exact ⟨v', w', h1, OwnI.onto (M := m) h2 rfl, h3⟩
theorem wpList_append_itm {ops : Array Oper} {rest : List Oper} {o : Oper} {a : Act} {Q : Exit → Act → World → Prop} (w : World) (hgd : o.guard = none) (s x : Operand) (t : TypeId)
    (htt : Tryz.prog.underlying t = some (.slice 68)) (ho : o.op = .call { callee := .builtin .append, args := #[s, x], argTypes := #[t, t] })
    (base B : Nat) (v : Value) (l m : List Itm) {A : Option Addr} {n c : Nat} (hs : a.eval s = v) (hx : a.eval x = .slice A n c) (h : OwnI base w v l)
    (g : Itms w B (.slice A n c) m) (hb : base ≤ w.heap.size) (hl : l.length + m.length ≤ 4000000)
    (k : ∀ v' w', OwnI base w' v' (l ++ m) → w.grownBy w' v.ownBlock → wpList Tryz.prog ops Q rest (a.put o.dst v') w') : wpList Tryz.prog ops Q (o :: rest) a w := by
  refine wpList_plain hgd fun K hK => ?_
  obtain ⟨v', w', h1, h2, h3⟩ := run_append_itm w base B t o.type htt v l m h g hb hl
  unfold Oper.wp execOp
  simp only [ho, resolve, invoke, builtin, Sem.run_bind, Sem.run_pure, Result.andThen_ok, List.map_toArray, List.map_cons, List.map_nil, hs, hx, h1]
  exact hK _ _ (k v' w' h2 h3)
/-- One more behind a row of the call's own, as a walk meets it ('append(v, x)': x in a box of its own). -/
theorem wpList_snoc_itm {ops : Array Oper} {rest : List Oper} {o : Oper} {a : Act} {Q : Exit → Act → World → Prop} (w : World) (hgd : o.guard = none) (s x : Operand) (t t2 : TypeId)
    (htt : Tryz.prog.underlying t = some (.slice 68)) (ho : o.op = .call { callee := .builtin .append, args := #[s, x], argTypes := #[t, t] })
    (base g : Nat) (v : Value) (l : List Itm) (y : Itm) {c : Nat} (hs : a.eval s = v) (hx : a.eval x = .slice (some ⟨g, 0, none⟩) 1 c) (hgg : ∀ j u, (icl y)[j]? = some u → w.cell? ((⟨g, 0, none⟩ : Addr).add j) = some u) (h : OwnI base w v l)
    (hb : base ≤ w.heap.size) (hl : l.length ≤ 4000000)
    (k : ∀ v' w', OwnI base w' v' (l ++ [y]) → w.grownBy w' v.ownBlock → wpList Tryz.prog ops Q rest (a.put o.dst v') w') : wpList Tryz.prog ops Q (o :: rest) a w := by
  refine wpList_plain hgd fun K hK => ?_
  obtain ⟨i0, hi0, hz0, hz1, hz2⟩ := info_parts info_itm
  obtain ⟨v', w', h1, h2, h3, -⟩ := run_append_own (P := Tryz.prog) w base t o.type 68 i0 (.agg #[.string ⟨#[]⟩, .string ⟨#[]⟩]) 2 32 htt hi0 hz0 hz1 hz2 rfl (by decide) v l.length (l.flatMap icl) h ⟨g, 0, none⟩ 1 c (icl y) rfl hgg (icl_one y) (by unfold maxLen; omega) (by omega) hb
  unfold Oper.wp execOp
  simp only [ho, resolve, invoke, builtin, Sem.run_bind, Sem.run_pure, Result.andThen_ok, List.map_toArray, List.map_cons, List.map_nil, hs, hx, h1]
  exact hK _ _ (k v' w' (OwnI.onto (M := [y]) (by simpa using h2) rfl) h3)
/-- cellarer/api.Change, as a value, and as it lies in memory. -/
structure Chg where
  n : ByteArray
  val : ByteArray
  gone : Bool
def chg (v : Chg) : Value := .agg #[.string v.n, .string v.val, .bool v.gone]
def hcl (v : Chg) : List Value := [.string v.n, .string v.val, .bool v.gone]
def okH (v : Chg) : Prop := v.n.size ≤ maxLen ∧ v.val.size ≤ maxLen ∧ True
/-- It lies at p. -/
def AtH (w : World) (p : Addr) (v : Chg) : Prop :=
  w.cell? p = some (.string v.n) ∧ w.cell? ⟨p.block, p.off + 1, none⟩ = some (.string v.val) ∧ w.cell? ⟨p.block, p.off + 2, none⟩ = some (.bool v.gone)
/-- A slice whose elements are these; all of it lies below block B. -/
def Chgs (w : World) (B : Nat) (v : Value) (l : List Chg) : Prop :=
  ∃ A c, v = .slice A l.length c ∧ l.length ≤ c ∧ (A = none → c = 0) ∧ (∀ x ∈ l, okH x) ∧ ∀ k (h : k < l.length), ∃ a : Addr, A = some a ∧ a.block < B ∧ AtH w (a.add (k * 3)) l[k]
theorem AtH.keep {w w' : World} {p : Addr} {v : Chg} (h : AtH w p v) {B : Nat} (hp : p.block < B) (k : ∀ p : Addr, p.block < B → w'.cell? p = w.cell? p) : AtH w' p v :=
  ⟨(k p hp).trans h.1, (k ⟨p.block, p.off + 1, none⟩ hp).trans h.2.1, (k ⟨p.block, p.off + 2, none⟩ hp).trans h.2.2⟩
theorem Chgs.keep {w w' : World} {B : Nat} {v : Value} {l : List Chg} (h : Chgs w B v l) (k : ∀ p : Addr, p.block < B → w'.cell? p = w.cell? p) : Chgs w' B v l := by
  obtain ⟨A, c, e, e0, ez, eo, f⟩ := h
  refine ⟨A, c, e, e0, ez, eo, fun i hi => ?_⟩
  obtain ⟨a, e1, e2, e3⟩ := f i hi
  exact ⟨a, e1, e2, e3.keep (by rw [add_block]; exact e2) k⟩
theorem Chgs.below {w w' : World} {B : Nat} {v : Value} {l : List Chg} (h : Chgs w B v l) (k : Below B w w') : Chgs w' B v l := h.keep fun _ hp => k.cell hp
theorem Chgs.more {w : World} {B B' : Nat} {v : Value} {l : List Chg} (h : Chgs w B v l) (k : B ≤ B') : Chgs w B' v l := by
  obtain ⟨A, c, e, e0, ez, eo, f⟩ := h
  refine ⟨A, c, e, e0, ez, eo, fun i hi => ?_⟩
  obtain ⟨a, e1, e2, e3⟩ := f i hi
  exact ⟨a, e1, by omega, e3⟩
theorem Chgs.on {w w' : World} {v : Value} {l : List Chg} (h : Chgs w w.heap.size v l) (k : Q w w') : Chgs w' w'.heap.size v l := (h.below k).more k.size
theorem Chgs.nil (w : World) (B : Nat) : Chgs w B (.slice none 0 0) [] := ⟨none, 0, rfl, Nat.le_refl _, fun _ => rfl, by simp, fun k h => absurd h (by simp)⟩
theorem Chgs.okAll {w : World} {B : Nat} {v : Value} {l : List Chg} (h : Chgs w B v l) : ∀ x ∈ l, okH x := by
  obtain ⟨A, c, e, e0, ez, eo, f⟩ := h; exact eo
theorem Chgs.form {w : World} {B : Nat} {v : Value} {l : List Chg} (h : Chgs w B v l) : ∃ A c, v = .slice A l.length c := by
  obtain ⟨A, c, e, -⟩ := h; exact ⟨A, c, e⟩
/-- One of a slice, as it lies in every later world. -/
theorem Chgs.pick {w : World} {v : Value} {l : List Chg} (h : Chgs w w.heap.size v l) (i : Nat) (hi : i < l.length) :
    ∃ (a : Addr) (c : Nat), v = .slice (some a) l.length c ∧ a.block < w.heap.size ∧ okH l[i] ∧ ∀ d, Q w d → AtH d (a.add (i * 3)) l[i] := by
  obtain ⟨A, c, rfl, -, -, eo, f⟩ := h
  obtain ⟨a, rfl, ha, h1⟩ := f i hi
  exact ⟨a, c, rfl, ha, eo _ (List.getElem_mem hi), fun d q => h1.keep (by rw [add_block]; exact ha) fun _ hp => q.cell hp⟩
theorem info_chg : (Tryz.prog.info? 72).map (fun i => (i.zero, i.size, i.bytes)) = some (some (.agg #[.string ⟨#[]⟩, .string ⟨#[]⟩, .bool false]), 3, 40) := by kernel_rfl
/-- v is a row of the call's own, from block base on, of these. -/
def OwnH (base : Nat) (w : World) (v : Value) (l : List Chg) : Prop := w.ownsRow base 72 3 v l.length (l.flatMap hcl)
theorem OwnH.nil (base : Nat) (w : World) : OwnH base w (.slice none 0 0) [] := World.ownsRow_nil w _ _ _
theorem flat_hcl (l : List Chg) : (l.flatMap hcl).length = l.length * 3 := by
  induction l with
  | nil => rfl
  | cons x r ih => rw [List.flatMap_cons, List.length_append, ih, List.length_cons, show (hcl x).length = 3 by rfl]; omega
theorem flat_atchg (l : List Chg) (k : Nat) (h : k < l.length) {j : Nat} (hj : j < 3) : (l.flatMap hcl)[k * 3 + j]? = (hcl l[k])[j]? := by
  induction l generalizing k with
  | nil => simp at h
  | cons x r ih =>
    rw [List.flatMap_cons]
    cases k with
    | zero => rw [List.getElem?_append_left (by rw [show (hcl x).length = 3 by rfl]; omega)]; simp
    | succ k =>
      rw [List.getElem?_append_right (by rw [show (hcl x).length = 3 by rfl]; omega), show (k + 1) * 3 + j - (hcl x).length = k * 3 + j by rw [show (hcl x).length = 3 by rfl]; omega, ih k (by simpa using h)]
      rfl
theorem OwnH.read {base : Nat} {w : World} {v : Value} {l : List Chg} (h : OwnH base w v l) (hl : ∀ x ∈ l, okH x) : Chgs w w.heap.size v l := by
  rcases h.2 with ⟨rfl, h0⟩ | ⟨g, cap, cur, rfl, hb, hg, h1, h2, h3, h4⟩
  · rw [List.length_eq_zero_iff.1 h0]; exact Chgs.nil _ _
  · refine ⟨_, _, rfl, h1, (by simp), hl, fun k hk => ⟨⟨g, 0, none⟩, rfl, lt_of_block hg, ?_⟩⟩
    have hc : ∀ j, j < 3 → w.cell? ((⟨g, 0, none⟩ : Addr).add (k * 3 + j)) = (hcl l[k])[j]? := by
      intro j hj
      have := flat_atchg l k hk hj
      obtain ⟨u, hu⟩ : ∃ u, (hcl l[k])[j]? = some u := ⟨_, List.getElem?_eq_getElem (by rw [show (hcl l[k]).length = 3 by rfl]; exact hj)⟩
      rw [hu] at this ⊢
      exact World.ownsRow.cells h (g := g) rfl _ _ this
    have ha : ∀ j, 0 < j → (⟨g, 0, none⟩ : Addr).add (k * 3 + j) = ⟨((⟨g, 0, none⟩ : Addr).add (k * 3)).block, ((⟨g, 0, none⟩ : Addr).add (k * 3)).off + j, none⟩ := by
      intro j hj
      rw [add_pos _ (by omega), add_block]
      unfold Addr.add
      split
      · rename_i h0; simp [h0]
      · simp [Nat.add_assoc]
    refine ⟨hc 0 (by omega), ?_, ?_⟩
    · rw [← ha 1 (by omega)]; exact hc 1 (by omega)
    · rw [← ha 2 (by omega)]; exact hc 2 (by omega)
theorem OwnH.on {base : Nat} {w w' : World} {v : Value} {l : List Chg} (h : OwnH base w v l) (q : Q w w') : OwnH base w' v l := by
  rcases h.2 with ⟨rfl, h0⟩ | ⟨g, cap, cur, rfl, hb, hg, h1, h2, h3, h4⟩
  · exact ⟨h.1, .inl ⟨rfl, h0⟩⟩
  · exact ⟨h.1, .inr ⟨g, cap, cur, rfl, hb, (q.block g (lt_of_block hg)).trans hg, h1, h2, h3, h4⟩⟩
theorem OwnH.low {base b2 : Nat} {w : World} {v : Value} {l : List Chg} (h : OwnH base w v l) (k : b2 ≤ base) : OwnH b2 w v l := by
  rcases h.2 with ⟨rfl, h0⟩ | ⟨g, cap, cur, rfl, hb, r⟩
  · exact ⟨h.1, .inl ⟨rfl, h0⟩⟩
  · exact ⟨h.1, .inr ⟨g, cap, cur, rfl, by omega, r⟩⟩
theorem OwnH.form {base : Nat} {w : World} {v : Value} {l : List Chg} (h : OwnH base w v l) : ∃ A c, v = .slice A l.length c := by
  rcases h.2 with ⟨rfl, h0⟩ | ⟨g, cap, cur, rfl, -⟩
  · exact ⟨none, 0, by rw [h0]⟩
  · exact ⟨_, _, rfl⟩
theorem hcl_one (x : Chg) : ∀ u ∈ hcl x, u.oneCell' = true := by
  intro u hu
  simp [hcl] at hu
  rcases hu with rfl | rfl | rfl <;> rfl
theorem flat_onechg (l : List Chg) : ∀ u ∈ l.flatMap hcl, u.oneCell' = true := by
  intro u hu
  obtain ⟨x, -, hx⟩ := List.mem_flatMap.1 hu
  exact hcl_one x u hx
theorem OwnH.onto {base k : Nat} {w2 : World} {v2 : Value} {L M : List Chg} (h1 : w2.ownsRow base 72 3 v2 (L.length + k) (L.flatMap hcl ++ M.flatMap hcl)) (hk : k = M.length) : OwnH base w2 v2 (L ++ M) := by
  subst hk
  unfold OwnH
  rw [List.flatMap_append, List.length_append]
  exact h1
theorem OwnH.grown {base : Nat} {w0 wr w2 : World} {v : Value} {L : List Chg} (hown : OwnH base wr v L) (hbel : Below base w0 wr) (hb : base ≤ wr.heap.size) (h2 : wr.grownBy w2 v.ownBlock) : Below base w0 w2 :=
  hbel.grown h2 hb (fun k hk => (World.ownsRow.lt hown k hk).1)
theorem cells_onechg (w : World) (x : Chg) (t : TypeId) : ∀ j u, (hcl x)[j]? = some u → (w.alloc (.cells (hcl x).toArray t)).cell? ((⟨w.heap.size, 0, none⟩ : Addr).add j) = some u := by
  intro j u hj
  obtain ⟨hj2, rfl⟩ := List.getElem?_eq_some_iff.1 hj
  match j, hj2 with
  | 0, _ => simp [Addr.add, hcl]
  | 1, _ => simp [Addr.add, hcl]
  | 2, _ => simp [Addr.add, hcl]
theorem Chgs.flat {w : World} {B : Nat} {a : Addr} {n c : Nat} {l : List Chg} (h : Chgs w B (.slice (some a) n c) l) : ∀ j u, (l.flatMap hcl)[j]? = some u → w.cell? (a.add j) = some u := by
  obtain ⟨A, c', e, -, -, -, f⟩ := h
  injection e with e1 e2 e3
  intro j u hu
  obtain ⟨hj, -⟩ := List.getElem?_eq_some_iff.1 hu
  rw [flat_hcl] at hj
  have hk : j / 3 < l.length := by omega
  obtain ⟨a', ea, -, hat⟩ := f (j / 3) hk
  rw [← e1] at ea
  injection ea with ea
  subst ea
  have hj2 : j = j / 3 * 3 + j % 3 := by omega
  rw [hj2, flat_atchg l _ hk (by omega)] at hu
  have hadd : ∀ r, 0 < r → a.add (j / 3 * 3 + r) = ⟨(a.add (j / 3 * 3)).block, (a.add (j / 3 * 3)).off + r, none⟩ := by
    intro r hr
    rw [add_pos _ (by omega), add_block]
    unfold Addr.add
    split
    · simp [*]
    · simp [Nat.add_assoc]
  obtain ⟨c0, c1, c2⟩ := hat
  rw [hj2]
  have hr : j % 3 < 3 := by omega
  match hm : j % 3, hr with
  | 0, _ => rw [hm] at hu; simp [hcl] at hu; rw [Nat.add_zero, c0, ← hu]
  | 1, _ => rw [hm] at hu; simp [hcl] at hu; rw [hadd 1 (by omega), c1, ← hu]
  | 2, _ => rw [hm] at hu; simp [hcl] at hu; rw [hadd 2 (by omega), c2, ← hu]
theorem run_append_chg (w : World) (base B : Nat) (t ty : TypeId) (htt : Tryz.prog.underlying t = some (.slice 72)) (v : Value) (l m : List Chg) {A : Option Addr} {n c : Nat} (h : OwnH base w v l)
    (g : Chgs w B (.slice A n c) m) (hb : base ≤ w.heap.size) (hl : l.length + m.length ≤ 4000000) :
    ∃ v' w', (Builtin.append_ #[t, t] ty #[v, .slice A n c]).run Tryz.prog w = .ok v' w' ∧ OwnH base w' v' (l ++ m) ∧ w.grownBy w' v.ownBlock := by
  obtain ⟨i0, hi0, hz0, hz1, hz2⟩ := info_parts info_chg
  have hn : n = m.length := by obtain ⟨A', c', e, -⟩ := g; injection e
  subst hn
  cases A with
  | none =>
    have hm : m = [] := by
      obtain ⟨A', c', e, e0, ez, -, -⟩ := g
      injection e with e1 e2 e3
      have := ez e1.symm
      exact List.length_eq_zero_iff.1 (by omega)
    subst hm
    have hc : c = 0 := by
      obtain ⟨A', c', e, e0, ez, -, -⟩ := g
      injection e with e1 e2 e3
      rw [e3]; exact ez e1.symm
    subst hc
    exact ⟨v, w, run_append_owned_none (P := Tryz.prog) (w := w) base t ty 72 i0 3 htt hi0 v _ _ h, by simpa using h, World.grownBy.refl w _⟩
  | some a =>
    obtain ⟨v', w', h1, h2, h3, -⟩ := run_append_own (P := Tryz.prog) w base t ty 72 i0 (.agg #[.string ⟨#[]⟩, .string ⟨#[]⟩, .bool false]) 3 40 htt hi0 hz0 hz1 hz2 rfl (by decide) v l.length (l.flatMap hcl) h a m.length c (m.flatMap hcl) (flat_hcl m) g.flat (flat_onechg m) (by unfold maxLen; omega) (by omega) hb
    exact ⟨v', w', h1, OwnH.onto (M := m) h2 rfl, h3⟩
theorem wpList_append_chg {ops : Array Oper} {rest : List Oper} {o : Oper} {a : Act} {Q : Exit → Act → World → Prop} (w : World) (hgd : o.guard = none) (s x : Operand) (t : TypeId)
    (htt : Tryz.prog.underlying t = some (.slice 72)) (ho : o.op = .call { callee := .builtin .append, args := #[s, x], argTypes := #[t, t] })
    (base B : Nat) (v : Value) (l m : List Chg) {A : Option Addr} {n c : Nat} (hs : a.eval s = v) (hx : a.eval x = .slice A n c) (h : OwnH base w v l)
    (g : Chgs w B (.slice A n c) m) (hb : base ≤ w.heap.size) (hl : l.length + m.length ≤ 4000000)
    (k : ∀ v' w', OwnH base w' v' (l ++ m) → w.grownBy w' v.ownBlock → wpList Tryz.prog ops Q rest (a.put o.dst v') w') : wpList Tryz.prog ops Q (o :: rest) a w := by
  refine wpList_plain hgd fun K hK => ?_
  obtain ⟨v', w', h1, h2, h3⟩ := run_append_chg w base B t o.type htt v l m h g hb hl
  unfold Oper.wp execOp
  simp only [ho, resolve, invoke, builtin, Sem.run_bind, Sem.run_pure, Result.andThen_ok, List.map_toArray, List.map_cons, List.map_nil, hs, hx, h1]
  exact hK _ _ (k v' w' h2 h3)
/-- One more behind a row of the call's own, as a walk meets it ('append(v, x)': x in a box of its own). -/
theorem wpList_snoc_chg {ops : Array Oper} {rest : List Oper} {o : Oper} {a : Act} {Q : Exit → Act → World → Prop} (w : World) (hgd : o.guard = none) (s x : Operand) (t t2 : TypeId)
    (htt : Tryz.prog.underlying t = some (.slice 72)) (ho : o.op = .call { callee := .builtin .append, args := #[s, x], argTypes := #[t, t] })
    (base g : Nat) (v : Value) (l : List Chg) (y : Chg) {c : Nat} (hs : a.eval s = v) (hx : a.eval x = .slice (some ⟨g, 0, none⟩) 1 c) (hgg : ∀ j u, (hcl y)[j]? = some u → w.cell? ((⟨g, 0, none⟩ : Addr).add j) = some u) (h : OwnH base w v l)
    (hb : base ≤ w.heap.size) (hl : l.length ≤ 4000000)
    (k : ∀ v' w', OwnH base w' v' (l ++ [y]) → w.grownBy w' v.ownBlock → wpList Tryz.prog ops Q rest (a.put o.dst v') w') : wpList Tryz.prog ops Q (o :: rest) a w := by
  refine wpList_plain hgd fun K hK => ?_
  obtain ⟨i0, hi0, hz0, hz1, hz2⟩ := info_parts info_chg
  obtain ⟨v', w', h1, h2, h3, -⟩ := run_append_own (P := Tryz.prog) w base t o.type 72 i0 (.agg #[.string ⟨#[]⟩, .string ⟨#[]⟩, .bool false]) 3 40 htt hi0 hz0 hz1 hz2 rfl (by decide) v l.length (l.flatMap hcl) h ⟨g, 0, none⟩ 1 c (hcl y) rfl hgg (hcl_one y) (by unfold maxLen; omega) (by omega) hb
  unfold Oper.wp execOp
  simp only [ho, resolve, invoke, builtin, Sem.run_bind, Sem.run_pure, Result.andThen_ok, List.map_toArray, List.map_cons, List.map_nil, hs, hx, h1]
  exact hK _ _ (k v' w' (OwnH.onto (M := [y]) (by simpa using h2) rfl) h3)
end Go.Proofs.YtbilnomafloopaaGreat

namespace Go.Proofs.YtbilnomafloopaaGreat
set_option maxRecDepth 100000
open Go.ChangeShapes Go.WideShapes Go.ChangeAt Go.RowKit
set_option linter.unusedVariables false
set_option linter.unusedSimpArgs false
theorem less_irreflZ (a : List UInt8) : Op.bytesLess a a = false := by
  induction a with
  | nil => rfl
  | cons x r ih => simp [Op.bytesLess, ih]
theorem less_leqZ : ∀ a b : List UInt8, (Op.bytesLess a b || a == b) = !(Op.bytesLess b a) := by
  intro a
  induction a with
  | nil => intro b; cases b <;> simp [Op.bytesLess]
  | cons x r ih =>
    intro b
    cases b with
    | nil => simp [Op.bytesLess]
    | cons y m =>
      have h := ih m
      by_cases e : x = y
      · subst e
        have nl : ¬ x < x := by simp
        simp only [Op.bytesLess, nl, decide_false, Bool.false_or, beq_self_eq_true, Bool.true_and]
        rw [← h]
        simp
      · have e' : ¬ y = x := fun q => e q.symm
        by_cases lt : x < y
        · have ngt : ¬ y < x := by
            rw [UInt8.lt_iff_toNat_lt] at lt ⊢; omega
          simp [Op.bytesLess, lt, ngt, e, e']
        · have gt : y < x := by
            rw [UInt8.lt_iff_toNat_lt] at lt ⊢
            have : ¬ x.toNat = y.toNat := fun q => e (UInt8.toNat_inj.1 q)
            omega
          simp [Op.bytesLess, lt, gt, e, e']
theorem less_transZ : ∀ a b c : List UInt8, Op.bytesLess a b = true → Op.bytesLess b c = true → Op.bytesLess a c = true := by
  intro a
  induction a with
  | nil => intro b c h k; cases c with
    | nil => simp [Op.bytesLess] at k
    | cons _ _ => rfl
  | cons x r ih =>
    intro b c h k
    cases b with
    | nil => simp [Op.bytesLess] at h
    | cons y m =>
      cases c with
      | nil => simp [Op.bytesLess] at k
      | cons z s =>
        simp only [Op.bytesLess, Bool.or_eq_true, Bool.and_eq_true, decide_eq_true_eq, beq_iff_eq] at h k ⊢
        rcases h with h | ⟨rfl, h⟩
        · rcases k with k | ⟨rfl, k⟩
          · left; rw [UInt8.lt_iff_toNat_lt] at *; omega
          · exact .inl h
        · rcases k with k | ⟨rfl, k⟩
          · exact .inl k
          · exact .inr ⟨rfl, ih m s h k⟩
def ltBZ (a b : ByteArray) : Bool := Op.bytesLess a.toList b.toList
theorem key_neZ {a b : ByteArray} (h : a ≠ b) : (a.toList == b.toList) = false := by rw [eq_texts]; simpa using h
theorem ltB_irreflZ (a : ByteArray) : ltBZ a a = false := less_irreflZ _
theorem ltB_transZ {a b c : ByteArray} (h : ltBZ a b = true) (k : ltBZ b c = true) : ltBZ a c = true := less_transZ _ _ _ h k
theorem ltB_asymmZ {a b : ByteArray} (h : ltBZ a b = true) : ltBZ b a = false := by
  cases k : ltBZ b a with
  | false => rfl
  | true => have := ltB_transZ h k; rw [ltB_irreflZ] at this; exact this.symm
theorem ltB_leqZ (a b : ByteArray) : (ltBZ a b || a.toList == b.toList) = !(ltBZ b a) := less_leqZ _ _
theorem ltB_totalZ {a b : ByteArray} (h : a ≠ b) (k : ltBZ a b = false) : ltBZ b a = true := by
  have := ltB_leqZ a b
  rw [k, key_neZ h] at this
  simpa using this.symm
theorem ltB_neZ {a b : ByteArray} (h : ltBZ a b = true) : a ≠ b := fun e => by rw [e, ltB_irreflZ] at h; simp at h
end Go.Proofs.YtbilnomafloopaaGreat

