/-
  Small words shared by the proofs of this seat: worlds that only grow, texts as lists of octets, slices of texts. Versions: as values, as cells, as slices; what may be. Slices of versions: as they lie in memory, made by a call, and opened as arguments. Contracts of the document's without, Check, Find, Same. Contracts of the statements' One and Few, and of the document's Same. Worlds of which nothing but the tape has gone on. Contract of the document's Same. Items and changes: as values, as cells, as slices that are read, as rows that a call makes. The order of texts (stage 11). Items by their names: the plain facts on what rises, what is laid in it, and what is told of changes. Boxes as whole blocks; what leaves all but one block as it is.
-/
import Derived.Test.YthlbpjopkaninaaRows
import Derived.WalkKit
import Derived.ProofKit
import Derived.WalkSpells
import Derived.Below
import Derived.Lib.Hide
import Derived.Deep.QuietTactic
import Derived.BigQuiet
import Derived.RegionTactic
import Derived.WalkSmall
import Derived.OwnWalk
import Derived.OneCell
import Derived.Laws.OwnMore
import Derived.Laws.EntriesVeiled
import Derived.Laws.IdiomStrings
import Derived.Lib.AppendStr
import Derived.Lib.UnsafeStr
import Derived.Deep.AppendLies
import Derived.OpenShut
import Derived.ShutString
import Derived.ChangeOld
import Derived.ChangeSlices
import Derived.Lib.SmallJoins
import Derived.Deep.Slices
import Derived.Carry
import Derived.Laws.ResultCell
import Derived.Lib.AppendZerosOnto
import Derived.Lib.SliceRun
import Derived.Laws.AppendOwnNone
import Derived.Maps.OwnIn
namespace Go.Proofs.Ythlbpjopkaninaa
set_option maxRecDepth 100000
open Go.ChangeShapes Go.WideShapes Go.ChangeAt Go.RowKit
/-- What the walk puts in order behind each operation that is taken. -/
theorem PS {α : Type} : (∀ (l : List α) (i : Nat) (h : i < l.toArray.size), l.toArray[i]'h = l[i]'(by simpa using h)) ∧ (∀ (a : α) (l : List α) (h : 0 < (a :: l).length), (a :: l)[0]'h = a) ∧ (∀ (a : α) (l : List α) (i : Nat) (h : i + 1 < (a :: l).length), (a :: l)[i + 1]'h = l[i]'(Nat.lt_of_succ_lt_succ h)) ∧ (∀ (l : List α) (i : Nat) (a : α), l.toArray.setIfInBounds i a = (l.set i a).toArray) ∧ (∀ (x y : α) (l : List α), (x :: l).set 0 y = y :: l) ∧ (∀ (x y : α) (l : List α) (i : Nat), (x :: l).set (i + 1) y = x :: l.set i y) :=
  ⟨fun _ _ _ => List.getElem_toArray _, fun _ _ _ => rfl, fun _ _ _ _ => rfl, fun _ _ _ => List.setIfInBounds_toArray .., fun _ _ _ => rfl, fun _ _ _ _ => rfl⟩
/-- Nothing that was there has changed; memory may have grown. -/
def Q (w w' : World) : Prop := Below w.heap.size w w'
theorem Q.refl (w : World) : Q w w := Below.refl _ _
theorem Q.trans {a b c : World} (h : Q a b) (k : Q b c) : Q a c := Below.trans h (Below.mono k h.size)
theorem Q.drew {a b : World} (h : Q a b) : Q a b.drew := Below.drew h
theorem Q.alloc {a b : World} (h : Q a b) (o : Obj) : Q a (b.alloc o) := Below.alloc h h.size o
theorem Q.drewN {a b : World} (h : Q a b) (n : Nat) : Q a (b.drewN n) := below_drewN h n
theorem Q.size {a b : World} (h : Q a b) : a.heap.size ≤ b.heap.size := Below.size h
theorem ret_str {a b : ByteArray} (h : a = b) : Ending.returned (.string a) = .returned (.string b) := by rw [h]
theorem ret_bool {a b : Bool} (h : a = b) : Ending.returned (.bool a) = .returned (.bool b) := by rw [h]
/-- A text's octets, and the text of octets. -/
def bl (s : ByteArray) : List UInt8 := s.data.toList
def mk (l : List UInt8) : ByteArray := ⟨l.toArray⟩
theorem bl_mk (l : List UInt8) : bl (mk l) = l := rfl
theorem mk_bl (s : ByteArray) : mk (bl s) = s := rfl
theorem bl_length (s : ByteArray) : (bl s).length = s.size := Array.length_toList
theorem mk_size (l : List UInt8) : (mk l).size = l.length := by rw [← bl_length, bl_mk]
theorem bl_inj {a b : ByteArray} (h : bl a = bl b) : a = b := by rw [← mk_bl a, ← mk_bl b, h]
theorem bl_append (a b : ByteArray) : bl (a ++ b) = bl a ++ bl b := by simp [bl]
theorem bl_extract (s : ByteArray) (i j : Nat) : bl (s.extract i j) = ((bl s).drop i).take (j - i) := by
  simp [bl]
theorem toList_bl (s : ByteArray) : s.toList = bl s := ByteArray.toList_eq s
theorem cut_cut (s : ByteArray) {a b c d : Nat} : (s.extract a b).extract c d = s.extract (a + c) (min (a + d) b) := by
  apply bl_inj
  simp only [bl_extract, List.drop_take, List.drop_drop, List.take_take]
  rw [show min (d - c) (b - a - c) = min (a + d) b - (a + c) by omega]
theorem size_cut (s : ByteArray) {a b : Nat} (h : b ≤ s.size) : (s.extract a b).size = b - a := by
  rw [← bl_length, bl_extract, List.length_take, List.length_drop, bl_length]; omega
theorem eq_texts (a b : ByteArray) : (a.toList == b.toList) = decide (a = b) := by
  rw [toList_bl, toList_bl]
  by_cases h : a = b
  · subst h; simp
  · have : ¬ bl a = bl b := fun e => h (bl_inj e)
    simp [h, this]
theorem nil_text (a : ByteArray) : a.toList = [] ↔ a.size = 0 := by
  rw [toList_bl, ← bl_length]; exact List.length_eq_zero_iff.symm
/-- A slice whose elements are these texts; all of it lies below block B. -/
def Txts (w : World) (B : Nat) (v : Value) (l : List ByteArray) : Prop :=
  ∃ A c, v = .slice A l.length c ∧ ∀ k (h : k < l.length), ∃ a : Addr, A = some a ∧ a.block < B ∧ w.cell? (a.add k) = some (.string l[k])
theorem add_block (a : Addr) (n : Nat) : (a.add n).block = a.block := by unfold Addr.add; split <;> rfl
theorem Txts.keep {w w' : World} {B : Nat} {v : Value} {l : List ByteArray} (h : Txts w B v l) (k : ∀ p : Addr, p.block < B → w'.cell? p = w.cell? p) : Txts w' B v l := by
  obtain ⟨A, c, e, f⟩ := h
  refine ⟨A, c, e, fun i hi => ?_⟩
  obtain ⟨a, e1, e2, e3⟩ := f i hi
  exact ⟨a, e1, e2, (k _ (by rw [add_block]; exact e2)).trans e3⟩
theorem Txts.below {w w' : World} {B : Nat} {v : Value} {l : List ByteArray} (h : Txts w B v l) (k : Below B w w') : Txts w' B v l := h.keep fun _ hp => k.cell hp
theorem Txts.more {w : World} {B B' : Nat} {v : Value} {l : List ByteArray} (h : Txts w B v l) (k : B ≤ B') : Txts w B' v l := by
  obtain ⟨A, c, e, f⟩ := h
  refine ⟨A, c, e, fun i hi => ?_⟩
  obtain ⟨a, e1, e2, e3⟩ := f i hi
  exact ⟨a, e1, by omega, e3⟩
theorem Txts.on {w w' : World} {v : Value} {l : List ByteArray} (h : Txts w w.heap.size v l) (k : Q w w') : Txts w' w'.heap.size v l := (h.below k).more k.size
theorem Txts.nil (w : World) (B : Nat) : Txts w B (.slice none 0 0) [] := ⟨none, 0, rfl, fun k h => absurd h (by simp)⟩
/-- A row of texts that the call itself has made. -/
theorem Txts.own {w : World} {base e : Nat} {v : Value} {n : Nat} {l : List ByteArray} (h : w.ownsRow base e 1 v n (l.map Value.string)) : Txts w w.heap.size v l := by
  have hn : n = l.length := by have := h.1; simpa using this.symm
  subst hn
  rcases h.2 with ⟨rfl, h0⟩ | ⟨g, cap, cur, rfl, hb, hg, h1, h2, h3, h4⟩
  · rw [List.length_eq_zero_iff.1 h0]; exact Txts.nil _ _
  · refine ⟨_, _, rfl, fun k hk => ⟨⟨g, 0, none⟩, rfl, lt_of_block hg, ?_⟩⟩
    exact h.cells (g := g) rfl k _ (by simp [hk])
end Go.Proofs.Ythlbpjopkaninaa

namespace Go.Proofs.Ythlbpjopkaninaa
set_option maxRecDepth 100000
open Go.ChangeShapes Go.WideShapes Go.ChangeAt Go.RowKit
set_option linter.unusedVariables false
/-- A version. -/
structure Ver where
  id : Nat
  data : ByteArray
  mark : Bool
  tm : Int
/-- A version as a value, and as it lies in memory. -/
def ver (v : Ver) : Value := .agg #[.int .u64 (v.id : Nat), .string v.data, .bool v.mark, .int .i64 v.tm]
def vcells (v : Ver) : List Value := [.int .u64 (v.id : Nat), .string v.data, .bool v.mark, .int .i64 v.tm]
/-- May it be? -/
def mayV (v : Ver) : Bool := decide (v.id ≤ 281474976710655) && decide (v.data.size ≤ 2000) && (!v.mark || decide (v.data.size = 0)) && decide (0 ≤ v.tm) && decide (v.tm ≤ 1099511627775)
end Go.Proofs.Ythlbpjopkaninaa

namespace Go.Proofs.Ythlbpjopkaninaa
set_option maxRecDepth 100000
open Go.ChangeShapes Go.WideShapes Go.ChangeAt Go.RowKit
set_option linter.unusedVariables false
set_option linter.unusedSimpArgs false
/-- A version lies at p. -/
def At (w : World) (p : Addr) (v : Ver) : Prop :=
  w.cell? p = some (.int .u64 (v.id : Nat)) ∧ w.cell? ⟨p.block, p.off + 1, none⟩ = some (.string v.data) ∧ w.cell? ⟨p.block, p.off + 2, none⟩ = some (.bool v.mark) ∧ w.cell? ⟨p.block, p.off + 3, none⟩ = some (.int .i64 v.tm)
/-- What every version in memory is. -/
def okV (v : Ver) : Prop := v.id < 18446744073709551616 ∧ v.data.size ≤ maxLen ∧ -9223372036854775808 ≤ v.tm ∧ v.tm ≤ 9223372036854775807
/-- A slice whose elements are these versions; all of it lies below block B. -/
def Vers (w : World) (B : Nat) (v : Value) (l : List Ver) : Prop :=
  ∃ A c, v = .slice A l.length c ∧ l.length ≤ c ∧ (A = none → c = 0) ∧ (∀ x ∈ l, okV x) ∧ ∀ k (h : k < l.length), ∃ a : Addr, A = some a ∧ a.block < B ∧ At w (a.add (k * 4)) l[k]
theorem add_pos (p : Addr) {k : Nat} (h : 0 < k) : p.add k = ⟨p.block, p.off + k, none⟩ := by
  unfold Addr.add; rw [if_neg (by omega)]
theorem At.keep {w w' : World} {p : Addr} {v : Ver} (h : At w p v) {B : Nat} (hp : p.block < B) (k : ∀ p : Addr, p.block < B → w'.cell? p = w.cell? p) : At w' p v :=
  ⟨(k p hp).trans h.1, (k ⟨p.block, p.off + 1, none⟩ hp).trans h.2.1, (k ⟨p.block, p.off + 2, none⟩ hp).trans h.2.2.1, (k ⟨p.block, p.off + 3, none⟩ hp).trans h.2.2.2⟩
theorem Vers.keep {w w' : World} {B : Nat} {v : Value} {l : List Ver} (h : Vers w B v l) (k : ∀ p : Addr, p.block < B → w'.cell? p = w.cell? p) : Vers w' B v l := by
  obtain ⟨A, c, e, e0, ez, eo, f⟩ := h
  refine ⟨A, c, e, e0, ez, eo, fun i hi => ?_⟩
  obtain ⟨a, e1, e2, e3⟩ := f i hi
  exact ⟨a, e1, e2, e3.keep (by rw [add_block]; exact e2) k⟩
theorem Vers.below {w w' : World} {B : Nat} {v : Value} {l : List Ver} (h : Vers w B v l) (k : Below B w w') : Vers w' B v l := h.keep fun _ hp => k.cell hp
theorem Vers.more {w : World} {B B' : Nat} {v : Value} {l : List Ver} (h : Vers w B v l) (k : B ≤ B') : Vers w B' v l := by
  obtain ⟨A, c, e, e0, ez, eo, f⟩ := h
  refine ⟨A, c, e, e0, ez, eo, fun i hi => ?_⟩
  obtain ⟨a, e1, e2, e3⟩ := f i hi
  exact ⟨a, e1, by omega, e3⟩
theorem Vers.on {w w' : World} {v : Value} {l : List Ver} (h : Vers w w.heap.size v l) (k : Q w w') : Vers w' w'.heap.size v l := (h.below k).more k.size
theorem Vers.nil (w : World) (B : Nat) : Vers w B (.slice none 0 0) [] := ⟨none, 0, rfl, Nat.le_refl _, fun _ => rfl, by simp, fun k h => absurd h (by simp)⟩
theorem list_of {α : Type} {P : Nat → α → Prop} (n : Nat) (h : ∀ i, i < n → ∃ x, P i x) : ∃ l : List α, l.length = n ∧ ∀ i (hi : i < l.length), P i l[i] := by
  induction n with
  | zero => exact ⟨[], rfl, fun i hi => absurd hi (by simp)⟩
  | succ n ih =>
    obtain ⟨l, hl, hp⟩ := ih fun i hi => h i (by omega)
    obtain ⟨x, hx⟩ := h n (by omega)
    refine ⟨l ++ [x], by simp [hl], fun i hi => ?_⟩
    by_cases hin : i < l.length
    · rw [List.getElem_append_left hin]; exact hp i hin
    · have : i = n := by simp at hi; omega
      subst this
      rw [List.getElem_append_right (by omega)]
      simpa [hl] using hx
theorem own : ownKnob Try.prog.godebug = none := by kernel_rfl
theorem laid : laidOutB Try.prog = true := by kernel_rfl
theorem wfu64 {a : Int} (h : (Lit.int .u64 a).wf = true) : ∃ n : Nat, a = n ∧ n < 18446744073709551616 := by
  have h2 : 0 ≤ a ∧ a ≤ 18446744073709551615 := by simpa [Lit.wf, IntKind.min, IntKind.max, IntKind.signed, IntKind.bits] using h
  exact ⟨a.toNat, by omega, by omega⟩
end Go.Proofs.Ythlbpjopkaninaa

namespace Go.Proofs.Ythlbpjopkaninaa
set_option maxRecDepth 100000
open Go.ChangeShapes Go.WideShapes Go.ChangeAt Go.RowKit
set_option linter.unusedVariables false
/-- The chain without a version. -/
def woV (l : List Ver) (id : Nat) : List Ver := l.filter fun x => decide (x.id ≠ id)
end Go.Proofs.Ythlbpjopkaninaa

namespace Go.Proofs.Ythlbpjopkaninaa
set_option maxRecDepth 100000
open Go.ChangeShapes Go.WideShapes Go.ChangeAt Go.RowKit
set_option linter.unusedVariables false
/-- One, and Few. -/
def oneV (v : Ver) : Ver := if 2001 < v.data.size then { v with data := v.data.extract 0 2001 } else v
def fewV (l : List Ver) : List Ver := (l.take 21).map oneV
theorem Q.set {a b : World} (h : Q a b) {g k : Nat} (hg : a.heap.size ≤ g) (u : Value) : Q a (b.setCell ⟨g, k, none⟩ u) := Below.setCell h hg u
end Go.Proofs.Ythlbpjopkaninaa

namespace Go.Proofs.Ythlbpjopkaninaa
set_option maxRecDepth 100000
open Go.ChangeShapes Go.WideShapes Go.ChangeAt Go.RowKit
set_option linter.unusedVariables false
/-- Nothing but the tape has gone on. -/
def D (w w' : World) : Prop := ∃ m, w' = w.drewN m
theorem D.refl (w : World) : D w w := ⟨0, rfl⟩
theorem D.drew {a b : World} (h : D a b) : D a b.drew := by obtain ⟨m, rfl⟩ := h; exact ⟨m + 1, rfl⟩
theorem D.drewN {a b : World} (h : D a b) (n : Nat) : D a (b.drewN n) := by obtain ⟨m, rfl⟩ := h; exact ⟨m + n, World.drewN_drewN _ _ _⟩
theorem D.trans {a b c : World} (h : D a b) (k : D b c) : D a c := by obtain ⟨m, rfl⟩ := h; obtain ⟨n, rfl⟩ := k; exact ⟨m + n, World.drewN_drewN _ _ _⟩
theorem D.q {a b : World} (h : D a b) : Q a b := by obtain ⟨m, rfl⟩ := h; exact (Q.refl a).drewN m
end Go.Proofs.Ythlbpjopkaninaa

namespace Go.Proofs.Ythlbpjopkaninaa
set_option maxRecDepth 100000
open Go.ChangeShapes Go.WideShapes Go.ChangeAt Go.RowKit
set_option linter.unusedVariables false
set_option linter.unusedSimpArgs false
/-- sameP: Same's answer. -/
def sameP (a b : List Ver) (A : Bool) : Prop := (A = true ∧ a = b) ∨ (A = false ∧ a ≠ b)
end Go.Proofs.Ythlbpjopkaninaa

namespace Go.Proofs.Ythlbpjopkaninaa
set_option maxRecDepth 100000
open Go.ChangeShapes Go.WideShapes Go.ChangeAt Go.RowKit
set_option linter.unusedVariables false
set_option linter.unusedSimpArgs false
set_option maxRecDepth 100000
/-- cellarer/api.Item, as a value, and as it lies in memory. -/
structure Itm where
  n : ByteArray
  val : ByteArray
def itm (v : Itm) : Value := .agg #[.string v.n, .string v.val]
def icl (v : Itm) : List Value := [.string v.n, .string v.val]
def okIZ (v : Itm) : Prop := v.n.size ≤ maxLen ∧ v.val.size ≤ maxLen
/-- It lies at p. -/
def AtI (w : World) (p : Addr) (v : Itm) : Prop :=
  w.cell? p = some (.string v.n) ∧ w.cell? ⟨p.block, p.off + 1, none⟩ = some (.string v.val)
/-- A slice whose elements are these; all of it lies below block B. -/
def Itms (w : World) (B : Nat) (v : Value) (l : List Itm) : Prop :=
  ∃ A c, v = .slice A l.length c ∧ l.length ≤ c ∧ (A = none → c = 0) ∧ (∀ x ∈ l, okIZ x) ∧ ∀ k (h : k < l.length), ∃ a : Addr, A = some a ∧ a.block < B ∧ AtI w (a.add (k * 2)) l[k]
theorem AtI.keep {w w' : World} {p : Addr} {v : Itm} (h : AtI w p v) {B : Nat} (hp : p.block < B) (k : ∀ p : Addr, p.block < B → w'.cell? p = w.cell? p) : AtI w' p v :=
  ⟨(k p hp).trans h.1, (k ⟨p.block, p.off + 1, none⟩ hp).trans h.2⟩
theorem Itms.keep {w w' : World} {B : Nat} {v : Value} {l : List Itm} (h : Itms w B v l) (k : ∀ p : Addr, p.block < B → w'.cell? p = w.cell? p) : Itms w' B v l := by
  obtain ⟨A, c, e, e0, ez, eo, f⟩ := h
  refine ⟨A, c, e, e0, ez, eo, fun i hi => ?_⟩
  obtain ⟨a, e1, e2, e3⟩ := f i hi
  exact ⟨a, e1, e2, e3.keep (by rw [add_block]; exact e2) k⟩
theorem Itms.below {w w' : World} {B : Nat} {v : Value} {l : List Itm} (h : Itms w B v l) (k : Below B w w') : Itms w' B v l := h.keep fun _ hp => k.cell hp
theorem Itms.more {w : World} {B B' : Nat} {v : Value} {l : List Itm} (h : Itms w B v l) (k : B ≤ B') : Itms w B' v l := by
  obtain ⟨A, c, e, e0, ez, eo, f⟩ := h
  refine ⟨A, c, e, e0, ez, eo, fun i hi => ?_⟩
  obtain ⟨a, e1, e2, e3⟩ := f i hi
  exact ⟨a, e1, by omega, e3⟩
theorem Itms.on {w w' : World} {v : Value} {l : List Itm} (h : Itms w w.heap.size v l) (k : Q w w') : Itms w' w'.heap.size v l := (h.below k).more k.size
theorem Itms.nil (w : World) (B : Nat) : Itms w B (.slice none 0 0) [] := ⟨none, 0, rfl, Nat.le_refl _, fun _ => rfl, by simp, fun k h => absurd h (by simp)⟩
theorem Itms.okAll {w : World} {B : Nat} {v : Value} {l : List Itm} (h : Itms w B v l) : ∀ x ∈ l, okIZ x := by
  obtain ⟨A, c, e, e0, ez, eo, f⟩ := h; exact eo
theorem Itms.form {w : World} {B : Nat} {v : Value} {l : List Itm} (h : Itms w B v l) : ∃ A c, v = .slice A l.length c := by
  obtain ⟨A, c, e, -⟩ := h; exact ⟨A, c, e⟩
theorem info_itm : (Try.prog.info? 58).map (fun i => (i.zero, i.size, i.bytes)) = some (some (.agg #[.string ⟨#[]⟩, .string ⟨#[]⟩]), 2, 32) := by kernel_rfl
/-- v is a row of the call's own, from block base on, of these. -/
def OwnI (base : Nat) (w : World) (v : Value) (l : List Itm) : Prop := w.ownsRow base 58 2 v l.length (l.flatMap icl)
theorem OwnI.nil (base : Nat) (w : World) : OwnI base w (.slice none 0 0) [] := World.ownsRow_nil w _ _ _
theorem flat_icl (l : List Itm) : (l.flatMap icl).length = l.length * 2 := by
  induction l with
  | nil => rfl
  | cons x r ih => rw [List.flatMap_cons, List.length_append, ih, List.length_cons, show (icl x).length = 2 by rfl]; omega
theorem flat_atitm (l : List Itm) (k : Nat) (h : k < l.length) {j : Nat} (hj : j < 2) : (l.flatMap icl)[k * 2 + j]? = (icl l[k])[j]? := by
  induction l generalizing k with
  | nil => simp at h
  | cons x r ih =>
    rw [List.flatMap_cons]
    cases k with
    | zero => rw [List.getElem?_append_left (by rw [show (icl x).length = 2 by rfl]; omega)]; simp
    | succ k =>
      rw [List.getElem?_append_right (by rw [show (icl x).length = 2 by rfl]; omega), show (k + 1) * 2 + j - (icl x).length = k * 2 + j by rw [show (icl x).length = 2 by rfl]; omega, ih k (by simpa using h)]
      rfl
theorem OwnI.read {base : Nat} {w : World} {v : Value} {l : List Itm} (h : OwnI base w v l) (hl : ∀ x ∈ l, okIZ x) : Itms w w.heap.size v l := by
  rcases h.2 with ⟨rfl, h0⟩ | ⟨g, cap, cur, rfl, hb, hg, h1, h2, h3, h4⟩
  · rw [List.length_eq_zero_iff.1 h0]; exact Itms.nil _ _
  · refine ⟨_, _, rfl, h1, (by simp), hl, fun k hk => ⟨⟨g, 0, none⟩, rfl, lt_of_block hg, ?_⟩⟩
    have hc : ∀ j, j < 2 → w.cell? ((⟨g, 0, none⟩ : Addr).add (k * 2 + j)) = (icl l[k])[j]? := by
      intro j hj
      have := flat_atitm l k hk hj
      obtain ⟨u, hu⟩ : ∃ u, (icl l[k])[j]? = some u := ⟨_, List.getElem?_eq_getElem (by rw [show (icl l[k]).length = 2 by rfl]; exact hj)⟩
      rw [hu] at this ⊢
      exact World.ownsRow.cells h (g := g) rfl _ _ this
    have ha : ∀ j, 0 < j → (⟨g, 0, none⟩ : Addr).add (k * 2 + j) = ⟨((⟨g, 0, none⟩ : Addr).add (k * 2)).block, ((⟨g, 0, none⟩ : Addr).add (k * 2)).off + j, none⟩ := by
      intro j hj
      rw [add_pos _ (by omega), add_block]
      unfold Addr.add
      split
      · rename_i h0; simp [h0]
      · simp [Nat.add_assoc]
    refine ⟨hc 0 (by omega), ?_⟩
    · rw [← ha 1 (by omega)]; exact hc 1 (by omega)
theorem OwnI.on {base : Nat} {w w' : World} {v : Value} {l : List Itm} (h : OwnI base w v l) (q : Q w w') : OwnI base w' v l := by
  rcases h.2 with ⟨rfl, h0⟩ | ⟨g, cap, cur, rfl, hb, hg, h1, h2, h3, h4⟩
  · exact ⟨h.1, .inl ⟨rfl, h0⟩⟩
  · exact ⟨h.1, .inr ⟨g, cap, cur, rfl, hb, (q.block g (lt_of_block hg)).trans hg, h1, h2, h3, h4⟩⟩
theorem OwnI.low {base b2 : Nat} {w : World} {v : Value} {l : List Itm} (h : OwnI base w v l) (k : b2 ≤ base) : OwnI b2 w v l := by
  rcases h.2 with ⟨rfl, h0⟩ | ⟨g, cap, cur, rfl, hb, r⟩
  · exact ⟨h.1, .inl ⟨rfl, h0⟩⟩
  · exact ⟨h.1, .inr ⟨g, cap, cur, rfl, by omega, r⟩⟩
theorem OwnI.form {base : Nat} {w : World} {v : Value} {l : List Itm} (h : OwnI base w v l) : ∃ A c, v = .slice A l.length c := by
  rcases h.2 with ⟨rfl, h0⟩ | ⟨g, cap, cur, rfl, -⟩
  · exact ⟨none, 0, by rw [h0]⟩
  · exact ⟨_, _, rfl⟩
theorem icl_one (x : Itm) : ∀ u ∈ icl x, u.oneCell' = true := by
  intro u hu
  simp [icl] at hu
  rcases hu with rfl | rfl <;> rfl
theorem OwnI.onto {base k : Nat} {w2 : World} {v2 : Value} {L M : List Itm} (h1 : w2.ownsRow base 58 2 v2 (L.length + k) (L.flatMap icl ++ M.flatMap icl)) (hk : k = M.length) : OwnI base w2 v2 (L ++ M) := by
  subst hk
  unfold OwnI
  rw [List.flatMap_append, List.length_append]
  exact h1
theorem OwnI.grown {base : Nat} {w0 wr w2 : World} {v : Value} {L : List Itm} (hown : OwnI base wr v L) (hbel : Below base w0 wr) (hb : base ≤ wr.heap.size) (h2 : wr.grownBy w2 v.ownBlock) : Below base w0 w2 :=
  hbel.grown h2 hb (fun k hk => (World.ownsRow.lt hown k hk).1)
theorem cells_oneitm (w : World) (x : Itm) (t : TypeId) : ∀ j u, (icl x)[j]? = some u → (w.alloc (.cells (icl x).toArray t)).cell? ((⟨w.heap.size, 0, none⟩ : Addr).add j) = some u := by
  intro j u hj
  obtain ⟨hj2, rfl⟩ := List.getElem?_eq_some_iff.1 hj
  match j, hj2 with
  | 0, _ => simp [Addr.add, icl]
  | 1, _ => simp [Addr.add, icl]
theorem Itms.flat {w : World} {B : Nat} {a : Addr} {n c : Nat} {l : List Itm} (h : Itms w B (.slice (some a) n c) l) : ∀ j u, (l.flatMap icl)[j]? = some u → w.cell? (a.add j) = some u := by
  obtain ⟨A, c', e, -, -, -, f⟩ := h
  injection e with e1 e2 e3
  intro j u hu
  obtain ⟨hj, -⟩ := List.getElem?_eq_some_iff.1 hu
  rw [flat_icl] at hj
  have hk : j / 2 < l.length := by omega
  obtain ⟨a', ea, -, hat⟩ := f (j / 2) hk
  rw [← e1] at ea
  injection ea with ea
  subst ea
  have hj2 : j = j / 2 * 2 + j % 2 := by omega
  rw [hj2, flat_atitm l _ hk (by omega)] at hu
  have hadd : ∀ r, 0 < r → a.add (j / 2 * 2 + r) = ⟨(a.add (j / 2 * 2)).block, (a.add (j / 2 * 2)).off + r, none⟩ := by
    intro r hr
    rw [add_pos _ (by omega), add_block]
    unfold Addr.add
    split
    · simp [*]
    · simp [Nat.add_assoc]
  obtain ⟨c0, c1⟩ := hat
  rw [hj2]
  have hr : j % 2 < 2 := by omega
  match hm : j % 2, hr with
  | 0, _ => rw [hm] at hu; simp [icl] at hu; rw [Nat.add_zero, c0, ← hu]
  | 1, _ => rw [hm] at hu; simp [icl] at hu; rw [hadd 1 (by omega), c1, ← hu]
/-- One more behind a row of the call's own, as a walk meets it ('append(v, x)': x in a box of its own). -/
theorem wpList_snoc_itm {ops : Array Oper} {rest : List Oper} {o : Oper} {a : Act} {Q : Exit → Act → World → Prop} (w : World) (hgd : o.guard = none) (s x : Operand) (t t2 : TypeId)
    (htt : Try.prog.underlying t = some (.slice 58)) (ho : o.op = .call { callee := .builtin .append, args := #[s, x], argTypes := #[t, t] })
    (base g : Nat) (v : Value) (l : List Itm) (y : Itm) {c : Nat} (hs : a.eval s = v) (hx : a.eval x = .slice (some ⟨g, 0, none⟩) 1 c) (hgg : ∀ j u, (icl y)[j]? = some u → w.cell? ((⟨g, 0, none⟩ : Addr).add j) = some u) (h : OwnI base w v l)
    (hb : base ≤ w.heap.size) (hl : l.length ≤ 4000000)
    (k : ∀ v' w', OwnI base w' v' (l ++ [y]) → w.grownBy w' v.ownBlock → wpList Try.prog ops Q rest (a.put o.dst v') w') : wpList Try.prog ops Q (o :: rest) a w := by
  refine wpList_plain hgd fun K hK => ?_
  obtain ⟨i0, hi0, hz0, hz1, hz2⟩ := info_parts info_itm
  obtain ⟨v', w', h1, h2, h3, -⟩ := run_append_own (P := Try.prog) w base t o.type 58 i0 (.agg #[.string ⟨#[]⟩, .string ⟨#[]⟩]) 2 32 htt hi0 hz0 hz1 hz2 rfl (by decide) v l.length (l.flatMap icl) h ⟨g, 0, none⟩ 1 c (icl y) rfl hgg (icl_one y) (by unfold maxLen; omega) (by omega) hb
  unfold Oper.wp execOp
  simp only [ho, resolve, invoke, builtin, Sem.run_bind, Sem.run_pure, Result.andThen_ok, List.map_toArray, List.map_cons, List.map_nil, hs, hx, h1]
  exact hK _ _ (k v' w' (OwnI.onto (M := [y]) (by simpa using h2) rfl) h3)
/-- cellarer/api.Change, as a value, and as it lies in memory. -/
structure Chg where
  n : ByteArray
  val : ByteArray
  gone : Bool
def chg (v : Chg) : Value := .agg #[.string v.n, .string v.val, .bool v.gone]
def hcl (v : Chg) : List Value := [.string v.n, .string v.val, .bool v.gone]
def okH (v : Chg) : Prop := v.n.size ≤ maxLen ∧ v.val.size ≤ maxLen ∧ True
/-- It lies at p. -/
def AtH (w : World) (p : Addr) (v : Chg) : Prop :=
  w.cell? p = some (.string v.n) ∧ w.cell? ⟨p.block, p.off + 1, none⟩ = some (.string v.val) ∧ w.cell? ⟨p.block, p.off + 2, none⟩ = some (.bool v.gone)
/-- A slice whose elements are these; all of it lies below block B. -/
def Chgs (w : World) (B : Nat) (v : Value) (l : List Chg) : Prop :=
  ∃ A c, v = .slice A l.length c ∧ l.length ≤ c ∧ (A = none → c = 0) ∧ (∀ x ∈ l, okH x) ∧ ∀ k (h : k < l.length), ∃ a : Addr, A = some a ∧ a.block < B ∧ AtH w (a.add (k * 3)) l[k]
theorem AtH.keep {w w' : World} {p : Addr} {v : Chg} (h : AtH w p v) {B : Nat} (hp : p.block < B) (k : ∀ p : Addr, p.block < B → w'.cell? p = w.cell? p) : AtH w' p v :=
  ⟨(k p hp).trans h.1, (k ⟨p.block, p.off + 1, none⟩ hp).trans h.2.1, (k ⟨p.block, p.off + 2, none⟩ hp).trans h.2.2⟩
theorem Chgs.keep {w w' : World} {B : Nat} {v : Value} {l : List Chg} (h : Chgs w B v l) (k : ∀ p : Addr, p.block < B → w'.cell? p = w.cell? p) : Chgs w' B v l := by
  obtain ⟨A, c, e, e0, ez, eo, f⟩ := h
  refine ⟨A, c, e, e0, ez, eo, fun i hi => ?_⟩
  obtain ⟨a, e1, e2, e3⟩ := f i hi
  exact ⟨a, e1, e2, e3.keep (by rw [add_block]; exact e2) k⟩
theorem Chgs.below {w w' : World} {B : Nat} {v : Value} {l : List Chg} (h : Chgs w B v l) (k : Below B w w') : Chgs w' B v l := h.keep fun _ hp => k.cell hp
theorem Chgs.more {w : World} {B B' : Nat} {v : Value} {l : List Chg} (h : Chgs w B v l) (k : B ≤ B') : Chgs w B' v l := by
  obtain ⟨A, c, e, e0, ez, eo, f⟩ := h
  refine ⟨A, c, e, e0, ez, eo, fun i hi => ?_⟩
  obtain ⟨a, e1, e2, e3⟩ := f i hi
  exact ⟨a, e1, by omega, e3⟩
theorem Chgs.on {w w' : World} {v : Value} {l : List Chg} (h : Chgs w w.heap.size v l) (k : Q w w') : Chgs w' w'.heap.size v l := (h.below k).more k.size
theorem Chgs.nil (w : World) (B : Nat) : Chgs w B (.slice none 0 0) [] := ⟨none, 0, rfl, Nat.le_refl _, fun _ => rfl, by simp, fun k h => absurd h (by simp)⟩
theorem Chgs.okAll {w : World} {B : Nat} {v : Value} {l : List Chg} (h : Chgs w B v l) : ∀ x ∈ l, okH x := by
  obtain ⟨A, c, e, e0, ez, eo, f⟩ := h; exact eo
theorem Chgs.form {w : World} {B : Nat} {v : Value} {l : List Chg} (h : Chgs w B v l) : ∃ A c, v = .slice A l.length c := by
  obtain ⟨A, c, e, -⟩ := h; exact ⟨A, c, e⟩
theorem cells_chg : Try.prog.cellsOf 37 = 3 := by kernel_rfl
theorem open_chg {H : Type} {enc : TypeId × Value → H} {W : World} {b0 : Nat} {v : Value} {d : DataW H} {p : List MemPlace} (hv : Value.okWide Try.prog W .any b0 37 v)
    (h : DataW.Trod enc Try.prog W 0 (fun _ => true) true 37 v d p) : ∃ x : Chg, v = chg x ∧ okH x := by
  obtain ⟨v0, v1, v2, y0, y1, y2, n, rfl, -, -, h0, h1, h2⟩ := Joins.open_agg3 Try.underlying37 (by kernel_rfl) (by kernel_rfl) hv h
  obtain ⟨s0, e0, -, w0⟩ := DataW.trod_string Try.underlying9 h0
  obtain ⟨s1, e1, -, w1⟩ := DataW.trod_string Try.underlying9 h1
  obtain ⟨s2, e2, -⟩ := DataW.trod_bool Try.underlying4 h2
  simp at e0 e1 e2
  subst e0 e1 e2
  exact ⟨⟨s0, s1, s2⟩, rfl, ⟨w0, w1, trivial⟩⟩
theorem chg_cellE {H : Type} {enc : TypeId × Value → H} {W : World} {n : Nat} {v : Value} {y : DataW H × List MemPlace}
    (hf : DataW.trod enc Try.prog W 0 (fun _ => true) true n 42 [v] = some y) : ∃ l : List Chg, Chgs W W.heap.size v l ∧ l.length ≤ maxLen := by
  rcases Deep.open_slice Try.underlying42 hf with ⟨hcs, hx⟩ | ⟨a, len', cap', m, n, D, Pl, hcs, _, hl, hm, hmm, hx, hel⟩
  · simp at hcs
    subst hcs
    exact ⟨[], Chgs.nil _ _, by simp⟩
  · simp at hcs
    subst hcs
    have each : ∀ i, i < len' → ∃ x : Chg, okH x ∧ AtH W (a.add (i * 3)) x := by
      intro i hi
      obtain ⟨cs', h1, h2⟩ := hel i (by rw [hmm]; simp; omega)
      rw [cells_chg] at h1
      obtain ⟨-, hlen4, hcell⟩ := World.cells?_some h1
      obtain ⟨y0, y1, y2, n', -, -, g0, g1, g2⟩ := Deep.trod_struct3 Try.underlying37 h2
      obtain ⟨v0, v1, v2, rfl⟩ : ∃ a b c, cs' = [a, b, c] := by
        match cs', hlen4 with
        | [a, b, c], _ => exact ⟨a, b, c, rfl⟩
      have c0 : Try.prog.cellsOf 9 = 1 := by kernel_rfl
      have c1 : Try.prog.cellsOf 9 = 1 := by kernel_rfl
      have c2 : Try.prog.cellsOf 4 = 1 := by kernel_rfl
      simp [c0, c1, c2] at g0 g1 g2
      obtain ⟨s0, e0, -, w0⟩ := DataW.trod_string Try.underlying9 g0
      obtain ⟨s1, e1, -, w1⟩ := DataW.trod_string Try.underlying9 g1
      obtain ⟨s2, e2, -⟩ := DataW.trod_bool Try.underlying4 g2
      simp at e0 e1 e2
      subst e0 e1 e2
      refine ⟨⟨s0, s1, s2⟩, ⟨w0, w1, trivial⟩, ?_, ?_, ?_⟩
      · exact hcell 0 (by omega)
      · exact (congrArg W.cell? (add_pos _ (by omega : 0 < 1)).symm).trans (hcell 1 (by omega))
      · exact (congrArg W.cell? (add_pos _ (by omega : 0 < 2)).symm).trans (hcell 2 (by omega))
    obtain ⟨l, hlen, hp⟩ := list_of len' each
    refine ⟨l, ⟨some a, cap', by rw [hlen], by omega, (by simp), ?_, fun k hk => ⟨a, rfl, ?_, (hp k hk).2⟩⟩, by omega⟩
    · intro x hx
      obtain ⟨k, hk, rfl⟩ := List.getElem_of_mem hx
      exact (hp k hk).1
    · have := World.block_lt_of_cell? W _ (hp k hk).2.1
      rw [add_block] at this; exact this
theorem open_chgs {H : Type} {enc : TypeId × Value → H} {W : World} {b : Nat} {v : Value} {d : DataW H} {p : List MemPlace} (hv : Value.okWide Try.prog W .any b 42 v)
    (h : DataW.Trod enc Try.prog W 0 (fun _ => true) true 42 v d p) : ∃ l : List Chg, Chgs W W.heap.size v l ∧ l.length ≤ maxLen := by
  obtain ⟨a0, len, cap, rfl⟩ := okWide_slice Try.underlying42 hv
  obtain ⟨fuel, hf⟩ := h
  exact chg_cellE (by simpa [Value.cells] using hf)
theorem info_chg : (Try.prog.info? 37).map (fun i => (i.zero, i.size, i.bytes)) = some (some (.agg #[.string ⟨#[]⟩, .string ⟨#[]⟩, .bool false]), 3, 40) := by kernel_rfl
/-- v is a row of the call's own, from block base on, of these. -/
def OwnH (base : Nat) (w : World) (v : Value) (l : List Chg) : Prop := w.ownsRow base 37 3 v l.length (l.flatMap hcl)
theorem OwnH.nil (base : Nat) (w : World) : OwnH base w (.slice none 0 0) [] := World.ownsRow_nil w _ _ _
theorem flat_hcl (l : List Chg) : (l.flatMap hcl).length = l.length * 3 := by
  induction l with
  | nil => rfl
  | cons x r ih => rw [List.flatMap_cons, List.length_append, ih, List.length_cons, show (hcl x).length = 3 by rfl]; omega
theorem flat_atchg (l : List Chg) (k : Nat) (h : k < l.length) {j : Nat} (hj : j < 3) : (l.flatMap hcl)[k * 3 + j]? = (hcl l[k])[j]? := by
  induction l generalizing k with
  | nil => simp at h
  | cons x r ih =>
    rw [List.flatMap_cons]
    cases k with
    | zero => rw [List.getElem?_append_left (by rw [show (hcl x).length = 3 by rfl]; omega)]; simp
    | succ k =>
      rw [List.getElem?_append_right (by rw [show (hcl x).length = 3 by rfl]; omega), show (k + 1) * 3 + j - (hcl x).length = k * 3 + j by rw [show (hcl x).length = 3 by rfl]; omega, ih k (by simpa using h)]
      rfl
theorem OwnH.read {base : Nat} {w : World} {v : Value} {l : List Chg} (h : OwnH base w v l) (hl : ∀ x ∈ l, okH x) : Chgs w w.heap.size v l := by
  rcases h.2 with ⟨rfl, h0⟩ | ⟨g, cap, cur, rfl, hb, hg, h1, h2, h3, h4⟩
  · rw [List.length_eq_zero_iff.1 h0]; exact Chgs.nil _ _
  · refine ⟨_, _, rfl, h1, (by simp), hl, fun k hk => ⟨⟨g, 0, none⟩, rfl, lt_of_block hg, ?_⟩⟩
    have hc : ∀ j, j < 3 → w.cell? ((⟨g, 0, none⟩ : Addr).add (k * 3 + j)) = (hcl l[k])[j]? := by
      intro j hj
      have := flat_atchg l k hk hj
      obtain ⟨u, hu⟩ : ∃ u, (hcl l[k])[j]? = some u := ⟨_, List.getElem?_eq_getElem (by rw [show (hcl l[k]).length = 3 by rfl]; exact hj)⟩
      rw [hu] at this ⊢
      exact World.ownsRow.cells h (g := g) rfl _ _ this
    have ha : ∀ j, 0 < j → (⟨g, 0, none⟩ : Addr).add (k * 3 + j) = ⟨((⟨g, 0, none⟩ : Addr).add (k * 3)).block, ((⟨g, 0, none⟩ : Addr).add (k * 3)).off + j, none⟩ := by
      intro j hj
      rw [add_pos _ (by omega), add_block]
      unfold Addr.add
      split
      · rename_i h0; simp [h0]
      · simp [Nat.add_assoc]
    refine ⟨hc 0 (by omega), ?_, ?_⟩
    · rw [← ha 1 (by omega)]; exact hc 1 (by omega)
    · rw [← ha 2 (by omega)]; exact hc 2 (by omega)
theorem OwnH.on {base : Nat} {w w' : World} {v : Value} {l : List Chg} (h : OwnH base w v l) (q : Q w w') : OwnH base w' v l := by
  rcases h.2 with ⟨rfl, h0⟩ | ⟨g, cap, cur, rfl, hb, hg, h1, h2, h3, h4⟩
  · exact ⟨h.1, .inl ⟨rfl, h0⟩⟩
  · exact ⟨h.1, .inr ⟨g, cap, cur, rfl, hb, (q.block g (lt_of_block hg)).trans hg, h1, h2, h3, h4⟩⟩
theorem OwnH.low {base b2 : Nat} {w : World} {v : Value} {l : List Chg} (h : OwnH base w v l) (k : b2 ≤ base) : OwnH b2 w v l := by
  rcases h.2 with ⟨rfl, h0⟩ | ⟨g, cap, cur, rfl, hb, r⟩
  · exact ⟨h.1, .inl ⟨rfl, h0⟩⟩
  · exact ⟨h.1, .inr ⟨g, cap, cur, rfl, by omega, r⟩⟩
theorem OwnH.form {base : Nat} {w : World} {v : Value} {l : List Chg} (h : OwnH base w v l) : ∃ A c, v = .slice A l.length c := by
  rcases h.2 with ⟨rfl, h0⟩ | ⟨g, cap, cur, rfl, -⟩
  · exact ⟨none, 0, by rw [h0]⟩
  · exact ⟨_, _, rfl⟩
theorem hcl_one (x : Chg) : ∀ u ∈ hcl x, u.oneCell' = true := by
  intro u hu
  simp [hcl] at hu
  rcases hu with rfl | rfl | rfl <;> rfl
theorem OwnH.onto {base k : Nat} {w2 : World} {v2 : Value} {L M : List Chg} (h1 : w2.ownsRow base 37 3 v2 (L.length + k) (L.flatMap hcl ++ M.flatMap hcl)) (hk : k = M.length) : OwnH base w2 v2 (L ++ M) := by
  subst hk
  unfold OwnH
  rw [List.flatMap_append, List.length_append]
  exact h1
theorem OwnH.grown {base : Nat} {w0 wr w2 : World} {v : Value} {L : List Chg} (hown : OwnH base wr v L) (hbel : Below base w0 wr) (hb : base ≤ wr.heap.size) (h2 : wr.grownBy w2 v.ownBlock) : Below base w0 w2 :=
  hbel.grown h2 hb (fun k hk => (World.ownsRow.lt hown k hk).1)
theorem cells_onechg (w : World) (x : Chg) (t : TypeId) : ∀ j u, (hcl x)[j]? = some u → (w.alloc (.cells (hcl x).toArray t)).cell? ((⟨w.heap.size, 0, none⟩ : Addr).add j) = some u := by
  intro j u hj
  obtain ⟨hj2, rfl⟩ := List.getElem?_eq_some_iff.1 hj
  match j, hj2 with
  | 0, _ => simp [Addr.add, hcl]
  | 1, _ => simp [Addr.add, hcl]
  | 2, _ => simp [Addr.add, hcl]
theorem Chgs.flat {w : World} {B : Nat} {a : Addr} {n c : Nat} {l : List Chg} (h : Chgs w B (.slice (some a) n c) l) : ∀ j u, (l.flatMap hcl)[j]? = some u → w.cell? (a.add j) = some u := by
  obtain ⟨A, c', e, -, -, -, f⟩ := h
  injection e with e1 e2 e3
  intro j u hu
  obtain ⟨hj, -⟩ := List.getElem?_eq_some_iff.1 hu
  rw [flat_hcl] at hj
  have hk : j / 3 < l.length := by omega
  obtain ⟨a', ea, -, hat⟩ := f (j / 3) hk
  rw [← e1] at ea
  injection ea with ea
  subst ea
  have hj2 : j = j / 3 * 3 + j % 3 := by omega
  rw [hj2, flat_atchg l _ hk (by omega)] at hu
  have hadd : ∀ r, 0 < r → a.add (j / 3 * 3 + r) = ⟨(a.add (j / 3 * 3)).block, (a.add (j / 3 * 3)).off + r, none⟩ := by
    intro r hr
    rw [add_pos _ (by omega), add_block]
    unfold Addr.add
    split
    · simp [*]
    · simp [Nat.add_assoc]
  obtain ⟨c0, c1, c2⟩ := hat
  rw [hj2]
  have hr : j % 3 < 3 := by omega
  match hm : j % 3, hr with
  | 0, _ => rw [hm] at hu; simp [hcl] at hu; rw [Nat.add_zero, c0, ← hu]
  | 1, _ => rw [hm] at hu; simp [hcl] at hu; rw [hadd 1 (by omega), c1, ← hu]
  | 2, _ => rw [hm] at hu; simp [hcl] at hu; rw [hadd 2 (by omega), c2, ← hu]
/-- One more behind a row of the call's own, as a walk meets it ('append(v, x)': x in a box of its own). -/
theorem wpList_snoc_chg {ops : Array Oper} {rest : List Oper} {o : Oper} {a : Act} {Q : Exit → Act → World → Prop} (w : World) (hgd : o.guard = none) (s x : Operand) (t t2 : TypeId)
    (htt : Try.prog.underlying t = some (.slice 37)) (ho : o.op = .call { callee := .builtin .append, args := #[s, x], argTypes := #[t, t] })
    (base g : Nat) (v : Value) (l : List Chg) (y : Chg) {c : Nat} (hs : a.eval s = v) (hx : a.eval x = .slice (some ⟨g, 0, none⟩) 1 c) (hgg : ∀ j u, (hcl y)[j]? = some u → w.cell? ((⟨g, 0, none⟩ : Addr).add j) = some u) (h : OwnH base w v l)
    (hb : base ≤ w.heap.size) (hl : l.length ≤ 4000000)
    (k : ∀ v' w', OwnH base w' v' (l ++ [y]) → w.grownBy w' v.ownBlock → wpList Try.prog ops Q rest (a.put o.dst v') w') : wpList Try.prog ops Q (o :: rest) a w := by
  refine wpList_plain hgd fun K hK => ?_
  obtain ⟨i0, hi0, hz0, hz1, hz2⟩ := info_parts info_chg
  obtain ⟨v', w', h1, h2, h3, -⟩ := run_append_own (P := Try.prog) w base t o.type 37 i0 (.agg #[.string ⟨#[]⟩, .string ⟨#[]⟩, .bool false]) 3 40 htt hi0 hz0 hz1 hz2 rfl (by decide) v l.length (l.flatMap hcl) h ⟨g, 0, none⟩ 1 c (hcl y) rfl hgg (hcl_one y) (by unfold maxLen; omega) (by omega) hb
  unfold Oper.wp execOp
  simp only [ho, resolve, invoke, builtin, Sem.run_bind, Sem.run_pure, Result.andThen_ok, List.map_toArray, List.map_cons, List.map_nil, hs, hx, h1]
  exact hK _ _ (k v' w' (OwnH.onto (M := [y]) (by simpa using h2) rfl) h3)
end Go.Proofs.Ythlbpjopkaninaa

namespace Go.Proofs.Ythlbpjopkaninaa
set_option maxRecDepth 100000
open Go.ChangeShapes Go.WideShapes Go.ChangeAt Go.RowKit
set_option linter.unusedVariables false
set_option linter.unusedSimpArgs false
theorem less_irreflZ (a : List UInt8) : Op.bytesLess a a = false := by
  induction a with
  | nil => rfl
  | cons x r ih => simp [Op.bytesLess, ih]
theorem less_leqZ : ∀ a b : List UInt8, (Op.bytesLess a b || a == b) = !(Op.bytesLess b a) := by
  intro a
  induction a with
  | nil => intro b; cases b <;> simp [Op.bytesLess]
  | cons x r ih =>
    intro b
    cases b with
    | nil => simp [Op.bytesLess]
    | cons y m =>
      have h := ih m
      by_cases e : x = y
      · subst e
        have nl : ¬ x < x := by simp
        simp only [Op.bytesLess, nl, decide_false, Bool.false_or, beq_self_eq_true, Bool.true_and]
        rw [← h]
        simp
      · have e' : ¬ y = x := fun q => e q.symm
        by_cases lt : x < y
        · have ngt : ¬ y < x := by
            rw [UInt8.lt_iff_toNat_lt] at lt ⊢; omega
          simp [Op.bytesLess, lt, ngt, e, e']
        · have gt : y < x := by
            rw [UInt8.lt_iff_toNat_lt] at lt ⊢
            have : ¬ x.toNat = y.toNat := fun q => e (UInt8.toNat_inj.1 q)
            omega
          simp [Op.bytesLess, lt, gt, e, e']
theorem less_transZ : ∀ a b c : List UInt8, Op.bytesLess a b = true → Op.bytesLess b c = true → Op.bytesLess a c = true := by
  intro a
  induction a with
  | nil => intro b c h k; cases c with
    | nil => simp [Op.bytesLess] at k
    | cons _ _ => rfl
  | cons x r ih =>
    intro b c h k
    cases b with
    | nil => simp [Op.bytesLess] at h
    | cons y m =>
      cases c with
      | nil => simp [Op.bytesLess] at k
      | cons z s =>
        simp only [Op.bytesLess, Bool.or_eq_true, Bool.and_eq_true, decide_eq_true_eq, beq_iff_eq] at h k ⊢
        rcases h with h | ⟨rfl, h⟩
        · rcases k with k | ⟨rfl, k⟩
          · left; rw [UInt8.lt_iff_toNat_lt] at *; omega
          · exact .inl h
        · rcases k with k | ⟨rfl, k⟩
          · exact .inl k
          · exact .inr ⟨rfl, ih m s h k⟩
def ltBZ (a b : ByteArray) : Bool := Op.bytesLess a.toList b.toList
theorem key_neZ {a b : ByteArray} (h : a ≠ b) : (a.toList == b.toList) = false := by rw [eq_texts]; simpa using h
theorem ltB_irreflZ (a : ByteArray) : ltBZ a a = false := less_irreflZ _
theorem ltB_transZ {a b c : ByteArray} (h : ltBZ a b = true) (k : ltBZ b c = true) : ltBZ a c = true := less_transZ _ _ _ h k
theorem ltB_asymmZ {a b : ByteArray} (h : ltBZ a b = true) : ltBZ b a = false := by
  cases k : ltBZ b a with
  | false => rfl
  | true => have := ltB_transZ h k; rw [ltB_irreflZ] at this; exact this.symm
theorem ltB_leqZ (a b : ByteArray) : (ltBZ a b || a.toList == b.toList) = !(ltBZ b a) := less_leqZ _ _
theorem ltB_totalZ {a b : ByteArray} (h : a ≠ b) (k : ltBZ a b = false) : ltBZ b a = true := by
  have := ltB_leqZ a b
  rw [k, key_neZ h] at this
  simpa using this.symm
theorem ltB_neZ {a b : ByteArray} (h : ltBZ a b = true) : a ≠ b := fun e => by rw [e, ltB_irreflZ] at h; simp at h
end Go.Proofs.Ythlbpjopkaninaa

namespace Go.Proofs.Ythlbpjopkaninaa
set_option maxRecDepth 100000
set_option linter.unusedVariables false
set_option linter.unusedSimpArgs false
/-- What rises by a name: each name is less than all behind it. -/
def Asc {α : Type} (f : α → ByteArray) (l : List α) : Prop := l.Pairwise fun x y => ltBZ (f x) (f y) = true
theorem Asc.nil {α : Type} {f : α → ByteArray} : Asc f [] := List.Pairwise.nil
theorem Asc.filter {α : Type} {f : α → ByteArray} {l : List α} (h : Asc f l) (p : α → Bool) : Asc f (l.filter p) := List.Pairwise.filter p h
/-- Two of one name are one. -/
theorem Asc.one {α : Type} {f : α → ByteArray} {l : List α} (h : Asc f l) {x y : α} (hx : x ∈ l) (hy : y ∈ l) (e : f x = f y) : x = y := by
  induction l with
  | nil => cases hx
  | cons z r ih =>
    obtain ⟨h1, h2⟩ := List.pairwise_cons.1 h
    rcases List.mem_cons.1 hx with ex | kx
    · rcases List.mem_cons.1 hy with ey | ky
      · rw [ex, ey]
      · exact absurd (ex ▸ e) (ltB_neZ (h1 _ ky))
    · rcases List.mem_cons.1 hy with ey | ky
      · exact absurd (ey ▸ e.symm) (ltB_neZ (h1 _ kx))
      · exact ih h2 kx ky
/-- What rises, and has the same in it, is the same. -/
theorem Asc.same {α : Type} {f : α → ByteArray} : ∀ {l m : List α}, Asc f l → Asc f m → (∀ x, x ∈ l ↔ x ∈ m) → l = m := by
  intro l
  induction l with
  | nil => intro m _ _ h; cases m with
    | nil => rfl
    | cons y r => exact absurd ((h y).2 (by simp)) (by simp)
  | cons x l ih =>
    intro m hl hm h
    cases m with
    | nil => exact absurd ((h x).1 (by simp)) (by simp)
    | cons y m =>
      obtain ⟨l1, l2⟩ := List.pairwise_cons.1 hl
      obtain ⟨m1, m2⟩ := List.pairwise_cons.1 hm
      have e : x = y := by
        rcases List.mem_cons.1 ((h x).1 (by simp)) with e | hx
        · exact e
        · rcases List.mem_cons.1 ((h y).2 (by simp)) with e | hy
          · exact e.symm
          · have a := l1 _ hy; have b := m1 _ hx; rw [ltB_asymmZ a] at b; cases b
      subst e
      rw [ih l2 m2 fun z => ⟨fun hz => ?_, fun hz => ?_⟩]
      · rcases List.mem_cons.1 ((h z).1 (List.mem_cons_of_mem _ hz)) with e | k
        · subst e; exact absurd rfl (ltB_neZ (l1 _ hz))
        · exact k
      · rcases List.mem_cons.1 ((h z).2 (List.mem_cons_of_mem _ hz)) with e | k
        · subst e; exact absurd rfl (ltB_neZ (m1 _ hz))
        · exact k
/-- Laid among what rises, in place of another one of its name. -/
def inG {α : Type} (f : α → ByteArray) (l : List α) (x : α) : List α := l.filter (fun y => ltBZ (f y) (f x)) ++ x :: l.filter (fun y => ltBZ (f x) (f y))
theorem inG_mem {α : Type} {f : α → ByteArray} {l : List α} {x y : α} : y ∈ inG f l x ↔ y = x ∨ (y ∈ l ∧ f y ≠ f x) := by
  unfold inG
  simp only [List.mem_append, List.mem_cons, List.mem_filter]
  constructor
  · rintro (⟨h, k⟩ | h | ⟨h, k⟩)
    · exact .inr ⟨h, ltB_neZ k⟩
    · exact .inl h
    · exact .inr ⟨h, fun e => ltB_neZ k e.symm⟩
  · rintro (h | ⟨h, k⟩)
    · exact .inr (.inl h)
    · cases e : ltBZ (f y) (f x) with
      | true => exact .inl ⟨h, rfl⟩
      | false => exact .inr (.inr ⟨h, ltB_totalZ k e⟩)
theorem inG_asc {α : Type} {f : α → ByteArray} {l : List α} (h : Asc f l) (x : α) : Asc f (inG f l x) := by
  unfold inG Asc
  rw [List.pairwise_append]
  refine ⟨Asc.filter h _, List.pairwise_cons.2 ⟨fun y hy => (List.mem_filter.1 hy).2, Asc.filter h _⟩, fun a ha b hb => ?_⟩
  have h1 := (List.mem_filter.1 ha).2
  rcases List.mem_cons.1 hb with rfl | hb
  · exact h1
  · exact ltB_transZ h1 (List.mem_filter.1 hb).2
/-- The items of some, each name once: the last one of it. -/
def ofI (l : List Itm) : List Itm := l.foldl (inG Itm.n) []
theorem foldI_asc (l : List Itm) {o : List Itm} (h : Asc Itm.n o) : Asc Itm.n (l.foldl (inG Itm.n) o) := by
  induction l generalizing o with
  | nil => exact h
  | cons x r ih => exact ih (inG_asc h x)
theorem ofI_asc (l : List Itm) : Asc Itm.n (ofI l) := foldI_asc l Asc.nil
/-- One change done. -/
def stepC (o : List Itm) (c : Chg) : List Itm := if c.gone = true then (inG Itm.n o ⟨c.n, c.val⟩).filter (fun y => decide (y.n ≠ c.n)) else inG Itm.n o ⟨c.n, c.val⟩
theorem stepC_asc {o : List Itm} (h : Asc Itm.n o) (c : Chg) : Asc Itm.n (stepC o c) := by
  unfold stepC; split
  · exact Asc.filter (inG_asc h _) _
  · exact inG_asc h _
theorem stepC_gone {o : List Itm} (h : Asc Itm.n o) {c : Chg} (g : c.gone = true) : stepC o c = o.filter (fun y => decide (y.n ≠ c.n)) := by
  refine Asc.same (f := Itm.n) (stepC_asc h c) (Asc.filter h _) fun y => ?_
  unfold stepC
  rw [if_pos g]
  simp only [List.mem_filter, inG_mem, decide_eq_true_eq]
  constructor
  · rintro ⟨rfl | ⟨h1, -⟩, h2⟩
    · exact absurd rfl h2
    · exact ⟨h1, h2⟩
  · rintro ⟨h1, h2⟩
    exact ⟨.inr ⟨h1, h2⟩, h2⟩
def withI (l : List Itm) (c : List Chg) : List Itm := c.foldl stepC (ofI l)
theorem foldC_asc (c : List Chg) {o : List Itm} (h : Asc Itm.n o) : Asc Itm.n (c.foldl stepC o) := by
  induction c generalizing o with
  | nil => exact h
  | cons x r ih => exact ih (stepC_asc h x)
theorem withI_asc (l : List Itm) (c : List Chg) : Asc Itm.n (withI l c) := foldC_asc c (ofI_asc l)
/-- What is told of changes from what rises to what rises. -/
def DiffC (a b : List Itm) (c : Chg) : Prop := (∃ x ∈ b, x ∉ a ∧ c = ⟨x.n, x.val, false⟩) ∨ (∃ y ∈ a, (∀ x ∈ b, x.n ≠ y.n) ∧ c = ⟨y.n, ⟨#[]⟩, true⟩)
end Go.Proofs.Ythlbpjopkaninaa

namespace Go.Proofs.Ythlbpjopkaninaa
set_option maxRecDepth 100000
open Go.ChangeShapes Go.WideShapes Go.ChangeAt Go.RowKit
set_option linter.unusedVariables false
set_option linter.unusedSimpArgs false
/-- Block B holds these cells. -/
def Bx (W : World) (B : Nat) (t : TypeId) (cs : Array Value) : Prop := W.heap[B]? = some (.cells cs t (0, 0))
theorem Bx.lt {W : World} {B : Nat} {t : TypeId} {cs : Array Value} (h : Bx W B t cs) : B < W.heap.size := (Array.getElem?_eq_some_iff.1 h).1
theorem Bx.cell {W : World} {B : Nat} {t : TypeId} {cs : Array Value} (h : Bx W B t cs) (i : Nat) : W.cell? ⟨B, i, none⟩ = cs[i]? := by simp [World.cell?, show W.heap[B]? = _ from h]
theorem Bx.frozen {W : World} {B : Nat} {t : TypeId} {cs : Array Value} (h : Bx W B t cs) (i : Nat) : W.frozen? ⟨B, i, none⟩ = false := by simp [World.frozen?, show W.heap[B]? = _ from h]
theorem Bx.new (W : World) (t : TypeId) (cs : Array Value) : Bx (W.alloc (.cells cs t)) W.heap.size t cs := heap_alloc_new W _
theorem Bx.same {W W' : World} {B : Nat} {t : TypeId} {cs : Array Value} (h : Bx W B t cs) (e : W'.heap[B]? = W.heap[B]?) : Bx W' B t cs := e.trans h
theorem Bx.on {W W' : World} {B : Nat} {t : TypeId} {cs : Array Value} (h : Bx W B t cs) (q : Q W W') : Bx W' B t cs := (q.block B h.lt).trans h
theorem Bx.alloc {W : World} {B : Nat} {t : TypeId} {cs : Array Value} (h : Bx W B t cs) (o : Obj) : Bx (W.alloc o) B t cs := h.on ((Q.refl _).alloc o)
theorem Bx.set {W : World} {B : Nat} {t : TypeId} {cs : Array Value} (h : Bx W B t cs) (i : Nat) (u : Value) : Bx (W.setCell ⟨B, i, none⟩ u) B t (cs.setIfInBounds i u) := by
  obtain ⟨hlt, hk⟩ := Array.getElem?_eq_some_iff.1 h
  show (W.heap.modify B _)[B]? = _
  rw [Array.getElem?_eq_getElem (by rw [Array.size_modify]; exact hlt), Array.getElem_modify_self, hk]
  rfl
theorem heap_set (W : World) (B i : Nat) (u : Value) {k : Nat} (h : k ≠ B) : (W.setCell ⟨B, i, none⟩ u).heap[k]? = W.heap[k]? := Below.heap_setCell _ _ _ k (by simpa using h)
theorem grown_set (W : World) (b i : Nat) (v : Value) : W.grownBy (W.setCell ⟨b, i, none⟩ v) (some b) :=
  ⟨rfl, rfl, rfl, by simp, fun k _ hk => heap_set W b i v (fun e => hk (by rw [e]))⟩
/-- Nothing that was there has changed, but block p. -/
def Kp (p : Nat) (w w' : World) : Prop := w.grownBy w' (some p)
theorem Kp.trans {p : Nat} {a b c : World} (h : Kp p a b) (k : Kp p b c) : Kp p a c :=
  ⟨k.os.trans h.os, k.tape.trans h.tape, k.output.trans h.output, Nat.le_trans h.size k.size, fun i hi hn => (k.block i (Nat.lt_of_lt_of_le hi h.size) hn).trans (h.block i hi hn)⟩
theorem Kp.set {p : Nat} {a b : World} (h : Kp p a b) (i : Nat) (u : Value) : Kp p a (b.setCell ⟨p, i, none⟩ u) := h.trans (grown_set b p i u)
theorem Kp.q {p : Nat} {w0 w w' : World} (q : Q w0 w) (h : Kp p w w') (hp : w0.heap.size ≤ p) : Q w0 w' :=
  Below.grown q h q.size (fun k e => by injection e with e; omega)
end Go.Proofs.Ythlbpjopkaninaa

