/-
  What is read of an index: contracts of At, Many, Octets, Count, place, Get. Contracts of place, both Get, and slices.Clone of versions. Contracts of the document's Same and of the program's. The order of texts; which indices may be. Contract of the document's May. Contract of the program's Check. Contract of the document's Put. Contract of slices.Concat of two chains. Contract of the program's without. Contracts of the program's laying, ahead and over. Contract of the program's over; what without comes to. Contracts of the program's mayLay, Put, Drop and Delete. Contract of the program's Put. Contracts of the program's Put, Drop and Delete, whole. Contracts of slices.Clone, apart, allApart, place, and both Find. Contracts of both Find. How many octets there are: contracts of the program's Octets and the document's. Contracts of both Begin. Contract of the document's Begin. Contract of slices.Delete of one upload. Contract of the document's Abort. Contracts of slices.Grow and slices.Concat of three lists of parts. Contract of with: the parts among which a part is laid. Plain facts on numbers' digits. Plain facts on tags: the register, the text, how many. Contracts of the register: the program's step, More, Of, and the document's step, Of, More. Contracts of the program's step, More, Of. Contracts of the program's digits, Text, countText, isMany. Plain facts on digits read, and contracts of the program's digit, number, Parse, count, Read. Contracts of the program's digit, number, Parse, count, Read. Contracts of the document's Text, Parse, Count. Contracts of the document's Parse and Read. Slices of tags, and contracts of the program's Many and the document's. Contracts of the document's step, Of, More. Contract of the document's Many. Contract of the program's Lay. The part of a number, and what a piece lacks: contracts.
-/
import Derived.Test.YtbilnomafloopaaGreatNi
import Derived.Shelf.Abstract
import Derived.Deep.RegionHeld3
import Derived.Test.YtbilnomafloopaaGreatNc
import Derived.Maps.OwnSet
import Derived.Deep.QuietTactic
import Derived.BigQuiet
import Derived.Deep.RegionLaw
import Derived.Lib.SliceRun
import Derived.Lib.SlicesDelete
import Derived.Laws.Cover1
import Derived.Test.YtbilnomafloopaaGreatNa
import Derived.Lib.VarintMem
import Derived.Laws.BitsAllLaws
import Derived.Deep.RegionWith
namespace Go.Proofs.YtbilnomafloopaaGreat
set_option maxRecDepth 100000
open Go.ChangeShapes Go.WideShapes Go.ChangeAt Go.RowKit
set_option linter.unusedVariables false
set_option linter.unusedSimpArgs false
/-- One entry of a slice, as it lies in every later world. -/
theorem Ents.pick {w : World} {v : Value} {l : List Ent} (h : Ents w w.heap.size v l) (i : Nat) (hi : i < l.length) :
    ∃ (a : Addr) (c : Nat), v = .slice (some a) l.length c ∧ a.block < w.heap.size ∧ ∃ A2 c2, Vers w w.heap.size (.slice A2 l[i].L.length c2) l[i].L ∧
      ∀ d, Q w d → d.cell? (a.add (i * 2)) = some (.string l[i].key) ∧ d.cell? ⟨(a.add (i * 2)).block, (a.add (i * 2)).off + 1, none⟩ = some (.slice A2 l[i].L.length c2) := by
  obtain ⟨A, c, rfl, -, -, -, f⟩ := h
  obtain ⟨a, rfl, ha, h1, u, h2, h3⟩ := f i hi
  obtain ⟨A2, c2, rfl⟩ := h3.form
  refine ⟨a, c, rfl, ha, A2, c2, h3, fun d q => ⟨?_, ?_⟩⟩
  · exact (q.cell (p := a.add (i * 2)) (by rw [add_block]; exact ha)).trans h1
  · exact (q.cell (p := ⟨(a.add (i * 2)).block, (a.add (i * 2)).off + 1, none⟩) (by show (a.add (i * 2)).block < _; rw [add_block]; exact ha)).trans h2
/-- How many keys are less than one. -/
def ltB (a b : ByteArray) : Bool := Op.bytesLess a.toList b.toList
def atE (l : List Ent) (key : ByteArray) : Nat := (l.filter fun e => ltB e.key key).length
/-- How many versions there are, and how many octets they have. -/
def octV (l : List Ver) : Nat := (l.map (fun x => x.data.size)).sum
def manyE (l : List Ent) : Nat := (l.map (fun e => e.L.length)).sum
def octE (l : List Ent) : Nat := (l.map (fun e => octV e.L)).sum
/-- What is looked at is not too much for a number. -/
def Small (l : List Ent) : Prop := l.length ≤ 1000 ∧ ∀ e ∈ l, e.key.size ≤ 1000 ∧ e.L.length ≤ 1000 ∧ ∀ x ∈ e.L, x.data.size ≤ 100000
theorem sum_le {α : Type} {f : α → Nat} {l : List α} {B : Nat} (h : ∀ x ∈ l, f x ≤ B) : (l.map f).sum ≤ l.length * B := by
  induction l with
  | nil => simp
  | cons x r ih =>
    have h1 := h x (by simp)
    have h2 := ih fun y hy => h y (by simp [hy])
    simp only [List.map_cons, List.sum_cons, List.length_cons, Nat.add_mul, Nat.one_mul]
    omega
theorem sum_take {α : Type} {f : α → Nat} {l : List α} {i : Nat} (h : i < l.length) : ((l.take (i + 1)).map f).sum = ((l.take i).map f).sum + f l[i] := by
  rw [List.take_succ_eq_append_getElem h, List.map_append, List.sum_append]; simp
theorem octV_le {l : List Ver} (hl : l.length ≤ 1000) (h : ∀ x ∈ l, x.data.size ≤ 100000) (i : Nat) : octV (l.take i) ≤ 100000000 := by
  have := sum_le (f := fun x : Ver => x.data.size) (l := l.take i) (B := 100000) (fun x hx => h x (List.mem_of_mem_take hx))
  have k : (l.take i).length ≤ 1000 := by rw [List.length_take]; omega
  have := Nat.mul_le_mul_right 100000 k
  unfold octV; omega
theorem manyE_le {l : List Ent} (h : Small l) (i : Nat) : manyE (l.take i) ≤ 1000000 := by
  have := sum_le (f := fun e : Ent => e.L.length) (l := l.take i) (B := 1000) (fun x hx => (h.2 x (List.mem_of_mem_take hx)).2.1)
  have k : (l.take i).length ≤ 1000 := by rw [List.length_take]; have := h.1; omega
  have := Nat.mul_le_mul_right 1000 k
  unfold manyE; omega
theorem octE_le {l : List Ent} (h : Small l) (i : Nat) : octE (l.take i) ≤ 100000000000 := by
  have := sum_le (f := fun e : Ent => octV e.L) (l := l.take i) (B := 100000000) (fun x hx => by
    obtain ⟨-, k1, k2⟩ := h.2 x (List.mem_of_mem_take hx)
    have := octV_le k1 k2 x.L.length
    rwa [List.take_length] at this)
  have k : (l.take i).length ≤ 1000 := by rw [List.length_take]; have := h.1; omega
  have := Nat.mul_le_mul_right 100000000 k
  unfold octE; omega
theorem octE_step {l : List Ent} {i : Nat} (h : i < l.length) : octE (l.take (i + 1)) = octE (l.take i) + octV l[i].L := sum_take (f := fun e : Ent => octV e.L) h
theorem octV_step {l : List Ver} {k : Nat} (h : k < l.length) : octV (l.take (k + 1)) = octV (l.take k) + l[k].data.size := sum_take (f := fun e : Ver => e.data.size) h
/-- One version of a slice, as it lies in every later world. -/
theorem Vers.pick {w : World} {A : Option Addr} {n c : Nat} {l : List Ver} (h : Vers w w.heap.size (.slice A n c) l) (i : Nat) (hi : i < l.length) :
    ∃ a : Addr, A = some a ∧ a.block < w.heap.size ∧ ∀ d, Q w d → At d (a.add (i * 4)) l[i] := by
  obtain ⟨A', c', e, -, -, -, f⟩ := h
  injection e with e1 e2 e3
  obtain ⟨a, rfl, ha, hat⟩ := f i hi
  exact ⟨a, e1, ha, fun d q => hat.keep (by rw [add_block]; exact ha) fun _ hp => q.cell hp⟩
theorem manyE_step {l : List Ent} {i : Nat} (h : i < l.length) : manyE (l.take (i + 1)) = manyE (l.take i) + l[i].L.length := sum_take (f := fun e : Ent => e.L.length) h
set_option maxHeartbeats 4000000 in
theorem count_any (l : List Ent) (v : Value) (w : World) (hs : Small l) (ht : Ents w w.heap.size v l) :
    Calls Tryz.prog 161 #[v] w fun e w' => e = .returned (.tuple #[.int .i64 (manyE l : Nat), .int .i64 (octE l : Nat)]) ∧ Q w w' := by
  have HT := Lib.hid ht
  have HS := Lib.hid hs
  have hl := hs.1
  obtain ⟨A, c, rfl⟩ := ht.form
  clear ht hs
  go_enter Tryz.func161, Tryz.ntmps161
  go_wp2_with fail
  go_loopw [4, 5, 12] (fun V N I wr => ∃ i n s : Nat, i ≤ l.length ∧ I = .int .i64 i ∧ N = .int .i64 n ∧ V = .int .i64 s ∧ Hid (n = octE (l.take i) ∧ s = manyE (l.take i)) ∧ Q w wr) (fun _ _ I _ => l.length - (intOf I).toNat)
  case atStart => exact ⟨0, 0, 0, Nat.zero_le _, rfl, rfl, rfl, Lib.hid (by simp [octE, manyE]), Q.refl _⟩
  case round =>
    obtain ⟨i, n, s, hil, rfl, rfl, rfl, HN, q⟩ := hrel
    by_cases hlt : i < l.length
    · obtain ⟨a, c', hv, ha, A2, c2, hvs, hat⟩ := HT.out.pick i hlt
      injection hv with e1 e2 e3
      subst e1 e3
      have hn : n ≤ 100000000000 := by have := HN.out.1; have := octE_le HS.out i; omega
      have hs : s ≤ 1000000 := by have := HN.out.2; have := manyE_le HS.out i; omega
      have HI := Lib.hid (octE_step hlt)
      have HJ := Lib.hid (manyE_step hlt)
      have HE := Lib.hid (HS.out.2 _ (List.getElem_mem hlt)).2
      have hL := HE.out.1
      obtain ⟨d0, d1⟩ := hat _ q
      obtain ⟨x, hx⟩ : ∃ x, x = l[i].key := ⟨_, rfl⟩
      obtain ⟨L, hLe⟩ : ∃ L, L = l[i].L := ⟨_, rfl⟩
      rw [← hLe] at d1 hvs HI HJ HE hL
      rw [← hx] at d0
      have HV := Lib.hid hvs
      have hilt : (i : Int) < (l.length : Int) := by omega
      have q2 := q.alloc (.cells #[.string x, .slice A2 L.length c2] 63)
      clear hLe hat hvs hx
      go_wp2_with fail
      go_loopw [5, 24] (fun N K wr2 => ∃ k m : Nat, k ≤ L.length ∧ K = .int .i64 k ∧ N = .int .i64 m ∧ Hid (m = n + octV (L.take k)) ∧ Q w wr2) (fun _ K _ => L.length - (intOf K).toNat)
      case atStart => exact ⟨0, n, Nat.zero_le _, rfl, rfl, Lib.hid (by simp [octV]), q2⟩
      case round =>
        clear q q2
        obtain ⟨k, m, hkl, rfl, rfl, HM, q⟩ := hrel
        by_cases hlk : k < L.length
        · obtain ⟨a2, rfl, ha2, hat2⟩ := HV.out.pick k hlk
          obtain ⟨c0, c1, c2', c3⟩ := hat2 _ q
          have hm : m ≤ 200000000000 := by have := HM.out; have := octV_le HE.out.1 HE.out.2 k; omega
          have hx2 := HE.out.2 _ (List.getElem_mem hlk)
          have HM2 : Hid (m + L[k].data.size = n + octV (L.take (k + 1))) := Lib.hid (by rw [octV_step hlk, HM.out]; omega)
          obtain ⟨x, hx⟩ : ∃ x, x = L[k] := ⟨_, rfl⟩
          rw [← hx] at c0 c1 c2' c3 hx2 HM2
          have q3 := q.alloc (.cells #[.int .u64 (x.id : Nat), .string x.data, .bool x.mark, .int .i64 x.tm] 81)
          clear hx hat2
          go_wp2
          go_roundw
          case rel => exact ⟨k + 1, m + x.data.size, by omega, by go_num, by go_num, HM2, q3⟩
          case measure => simp [intOf]; omega
        · have HN2 : Hid (m = octE (l.take (i + 1)) ∧ s + L.length = manyE (l.take (i + 1))) := Lib.hid (by
            have := HM.out
            rw [List.take_of_length_le (by omega)] at this
            rw [HI.out, HJ.out, ← HN.out.1, ← HN.out.2]; exact ⟨this, rfl⟩)
          go_wp2
          go_roundw
          case rel => exact ⟨i + 1, m, s + L.length, by omega, by go_num, rfl, by go_num, HN2, q⟩
          case measure => simp [intOf]; omega
    · have HV : Hid (n = octE l ∧ s = manyE l) := Lib.hid (by have := HN.out; rwa [List.take_of_length_le (by omega)] at this)
      go_wp2
      go_ret2
      exact ⟨by rw [HV.out.1, HV.out.2]; rfl, q⟩
end Go.Proofs.YtbilnomafloopaaGreat

namespace Go.Proofs.YtbilnomafloopaaGreat
set_option maxRecDepth 100000
open Go.ChangeShapes Go.WideShapes Go.ChangeAt Go.RowKit
set_option linter.unusedVariables false
set_option linter.unusedSimpArgs false
/-- The place of the first of which p tells yes; below 0, if there is none. -/
def idxL {α : Type} (p : α → Bool) (l : List α) : Int := match l.findIdx? p with
  | some i => (i : Nat)
  | none => -1
theorem idxL_hit {α : Type} {p : α → Bool} {l : List α} {i : Nat} (hl : i < l.length) (h : p l[i] = true) (k : ∀ j (hj : j < i) (hl : j < l.length), p l[j] = false) : idxL p l = i := by
  have : l.findIdx? p = some i := by
    rw [List.findIdx?_eq_some_iff_getElem]
    exact ⟨hl, h, fun j hj => by rw [k j hj (by omega)]; simp⟩
  rw [idxL, this]
theorem idxL_none {α : Type} {p : α → Bool} {l : List α} (k : ∀ j (hl : j < l.length), p l[j] = false) : idxL p l = -1 := by
  have : l.findIdx? p = none := by
    rw [List.findIdx?_eq_none_iff]
    intro x hx
    obtain ⟨j, hj, rfl⟩ := List.getElem_of_mem hx
    exact k j hj
  rw [idxL, this]
/-- Where a key is: nowhere, or at its first entry. -/
def hasK' (key : ByteArray) : Ent → Bool := fun e => decide (e.key = key)
/-- A key's versions. -/
def getE (l : List Ent) (key : ByteArray) : List Ver := match l.find? (hasK' key) with
  | some e => e.L
  | none => []
end Go.Proofs.YtbilnomafloopaaGreat

namespace Go.Proofs.YtbilnomafloopaaGreat
set_option maxRecDepth 100000
open Go.ChangeShapes Go.WideShapes Go.ChangeAt Go.RowKit
set_option linter.unusedVariables false
set_option linter.unusedSimpArgs false
theorem D.step {a b c : World} (h : D a b) (k : D b c) : D a c := by
  obtain ⟨m, rfl⟩ := h
  obtain ⟨n, rfl⟩ := k
  exact ⟨m + n, World.drewN_drewN _ _ _⟩
/-- Same's answer. -/
def sameEP (a b : List Ent) (R : Bool) : Prop := (R = true ∧ a = b) ∨ (R = false ∧ a ≠ b)
end Go.Proofs.YtbilnomafloopaaGreat

namespace Go.Proofs.YtbilnomafloopaaGreat
set_option maxRecDepth 100000
open Go.ChangeShapes Go.WideShapes Go.ChangeAt Go.RowKit
set_option linter.unusedVariables false
set_option linter.unusedSimpArgs false
theorem less_irrefl (a : List UInt8) : Op.bytesLess a a = false := by
  induction a with
  | nil => rfl
  | cons x r ih => simp [Op.bytesLess, ih]
theorem less_leq : ∀ a b : List UInt8, (Op.bytesLess a b || a == b) = !(Op.bytesLess b a) := by
  intro a
  induction a with
  | nil => intro b; cases b <;> simp [Op.bytesLess]
  | cons x r ih =>
    intro b
    cases b with
    | nil => simp [Op.bytesLess]
    | cons y m =>
      have h := ih m
      by_cases e : x = y
      · subst e
        have nl : ¬ x < x := by simp
        simp only [Op.bytesLess, nl, decide_false, Bool.false_or, beq_self_eq_true, Bool.true_and]
        rw [← h]
        simp
      · have e' : ¬ y = x := fun q => e q.symm
        by_cases lt : x < y
        · have ngt : ¬ y < x := by
            rw [UInt8.lt_iff_toNat_lt] at lt ⊢; omega
          simp [Op.bytesLess, lt, ngt, e, e']
        · have gt : y < x := by
            rw [UInt8.lt_iff_toNat_lt] at lt ⊢
            have : ¬ x.toNat = y.toNat := fun q => e (UInt8.toNat_inj.1 q)
            omega
          simp [Op.bytesLess, lt, gt, e, e']
theorem less_trans : ∀ a b c : List UInt8, Op.bytesLess a b = true → Op.bytesLess b c = true → Op.bytesLess a c = true := by
  intro a
  induction a with
  | nil => intro b c h k; cases c with
    | nil => simp [Op.bytesLess] at k
    | cons _ _ => rfl
  | cons x r ih =>
    intro b c h k
    cases b with
    | nil => simp [Op.bytesLess] at h
    | cons y m =>
      cases c with
      | nil => simp [Op.bytesLess] at k
      | cons z s =>
        simp only [Op.bytesLess, Bool.or_eq_true, Bool.and_eq_true, decide_eq_true_eq, beq_iff_eq] at h k ⊢
        rcases h with h | ⟨rfl, h⟩
        · rcases k with k | ⟨rfl, k⟩
          · left; rw [UInt8.lt_iff_toNat_lt] at *; omega
          · exact .inl h
        · rcases k with k | ⟨rfl, k⟩
          · exact .inl k
          · exact .inr ⟨rfl, ih m s h k⟩
theorem ltB_irrefl (a : ByteArray) : ltB a a = false := less_irrefl _
theorem ltB_trans {a b c : ByteArray} (h : ltB a b = true) (k : ltB b c = true) : ltB a c = true := less_trans _ _ _ h k
theorem ltB_leq (a b : ByteArray) : (ltB a b || a.toList == b.toList) = !(ltB b a) := less_leq _ _
theorem ltB_ne {a b : ByteArray} (h : ltB a b = true) : a ≠ b := fun e => by rw [e, ltB_irrefl] at h; simp at h
/-- Entry i may stand where it stands. -/
def stepI (l : List Ent) (i : Nat) : Prop := ∀ h : i < l.length, hasO 1 60 ko l[i].key = true ∧ 0 < l[i].L.length ∧ okP l[i].L ∧ ∀ j (hj : j + 1 = i), ltB (l[j]'(by omega)).key l[i].key = true
/-- An index that may be. -/
def okI (l : List Ent) : Prop := l.length ≤ 60 ∧ ∀ i, stepI l i
def chkI (l : List Ent) (R : Bool) : Prop := (R = true ∧ okI l) ∨ (R = false ∧ ¬ okI l)
theorem chkI_ex (l : List Ent) : ∃ R, chkI l R := by
  by_cases h : okI l
  · exact ⟨true, .inl ⟨rfl, h⟩⟩
  · exact ⟨false, .inr ⟨rfl, h⟩⟩
theorem chkI_no {l : List Ent} {R : Bool} (h : chkI l R) (k : ¬ okI l) : R = false := by
  rcases h with ⟨-, h⟩ | ⟨h, -⟩
  · exact absurd h k
  · exact h
theorem chkI_yes {l : List Ent} {R : Bool} (h : chkI l R) (k : okI l) : R = true := by
  rcases h with ⟨h, -⟩ | ⟨-, h⟩
  · exact h
  · exact absurd k h
theorem chkI_end {l : List Ent} {R : Bool} (h : chkI l R) (k : ∀ j, j < l.length → stepI l j) : R = decide (l.length ≤ 60) := by
  have hall : ∀ i, stepI l i := fun i => by
    by_cases hi : i < l.length
    · exact k i hi
    · exact fun h => absurd h hi
  by_cases h60 : l.length ≤ 60
  · rw [chkI_yes h ⟨h60, hall⟩]; simp [h60]
  · rw [chkI_no h (fun o => h60 o.1)]; simp [h60]
end Go.Proofs.YtbilnomafloopaaGreat

namespace Go.Proofs.YtbilnomafloopaaGreat
set_option maxRecDepth 100000
open Go.ChangeShapes Go.WideShapes Go.ChangeAt Go.RowKit
set_option linter.unusedVariables false
set_option linter.unusedSimpArgs false
end Go.Proofs.YtbilnomafloopaaGreat

namespace Go.Proofs.YtbilnomafloopaaGreat
set_option maxRecDepth 100000
open Go.ChangeShapes Go.WideShapes Go.ChangeAt Go.RowKit
set_option linter.unusedVariables false
set_option linter.unusedSimpArgs false
/-- The key ahead of entry i. -/
def lastK (l : List Ent) (i : Nat) : ByteArray := match i with
  | 0 => ⟨#[]⟩
  | j + 1 => if h : j < l.length then l[j].key else ⟨#[]⟩
theorem lastK_succ {l : List Ent} {i : Nat} (h : i < l.length) : lastK l (i + 1) = l[i].key := by rw [lastK, dif_pos h]
theorem leq_no {l : List Ent} {i : Nat} {x : ByteArray} (h : ∀ j (hj : j + 1 = i) (hl : j < l.length), ltB l[j].key x = true) (hx : 0 < x.size) (hi : i ≤ l.length) : ltB (lastK l i) x = true := by
  cases i with
  | zero =>
    unfold ltB lastK
    rw [toList_bl, toList_bl]
    cases e : bl x with
    | nil => have := bl_length x; rw [e] at this; simp at this; omega
    | cons a r => rfl
  | succ j =>
    rw [lastK, dif_pos (by omega)]
    exact h j rfl (by omega)
theorem leq_yes {l : List Ent} {i : Nat} {x : ByteArray} (h : ltB (lastK l i) x = true) : ∀ j (hj : j + 1 = i) (hl : j < l.length), ltB l[j].key x = true := by
  intro j hj hl
  subst hj
  rw [lastK, dif_pos hl] at h
  exact h
/-- The box of an entry, behind calls. -/
theorem boxE_of {w w1 : World} {k : ByteArray} {u : Value} (q : Q (w.alloc (.cells #[.string k, u] 63)) w1) : w1.cell? ⟨w.heap.size, 0, none⟩ = some (.string k) ∧ w1.cell? ⟨w.heap.size, 1, none⟩ = some u := by
  have c : ∀ j, w1.cell? ⟨w.heap.size, j, none⟩ = (w.alloc (.cells #[.string k, u] 63)).cell? ⟨w.heap.size, j, none⟩ := fun j => Below.cell q (p := ⟨w.heap.size, j, none⟩) (by simp)
  refine ⟨(c 0).trans ?_, (c 1).trans ?_⟩ <;> simp [go_sem]
set_option maxHeartbeats 4000000 in
theorem checkE_any (l : List Ent) (v : Value) (w : World) (R : Bool) (hR : chkI l R) (hs : Small l) (ht : Ents w w.heap.size v l) :
    Calls Tryz.prog 101 #[v] w fun e w' => e = .returned (.int .i64 (chkE R)) ∧ Q w w' := by
  have HT := Lib.hid ht
  have HR := Lib.hid hR
  have HS := Lib.hid hs
  have hl := hs.1
  obtain ⟨A, c, rfl⟩ := ht.form
  clear ht hR hs
  by_cases h60 : l.length ≤ 60
  · have h60' : ¬ (60 : Int) < (l.length : Int) := by omega
    go_enter Tryz.func101, Tryz.ntmps101
    go_wp2_with fail
    go_loopw [3, 11] (fun Z I wr => ∃ i : Nat, ∃ z : ByteArray, i ≤ l.length ∧ I = .int .i64 i ∧ Z = .string z ∧ Hid (z = lastK l i) ∧ Q w wr ∧ Hid (∀ j, j < i → stepI l j)) (fun _ I _ => l.length - (intOf I).toNat)
    case atStart => exact ⟨0, _, Nat.zero_le _, rfl, rfl, Lib.hid rfl, Q.refl _, Lib.hid (fun j h => by omega)⟩
    case round =>
      obtain ⟨i, z, hil, rfl, rfl, HZ, q0, HK⟩ := hrel
      by_cases hlt : i < l.length
      · obtain ⟨a, c', hv, ha, A2, c2, hvs, hat⟩ := HT.out.pick i hlt
        injection hv with e1 e2 e3
        subst e1 e3
        have hsm := HS.out.2 _ (List.getElem_mem hlt)
        have hilt : (i : Int) < (l.length : Int) := by omega
        have hz2 := lastK_succ hlt
        obtain ⟨e, he⟩ : ∃ e, e = l[i] := ⟨_, rfl⟩
        rw [← he] at hvs hat hsm hz2
        have HE := Lib.hid he
        clear he
        obtain ⟨x, L⟩ := e
        simp only at hvs hat hsm hz2
        have NO : (hasO 1 60 ko x = true → 0 < L.length → okP L → ltB z x = true → False) → R = false := fun h => chkI_no HR.out fun o => by
          obtain ⟨h1, h2, h3, h4⟩ := o.2 i hlt
          rw [← HE.out] at h1 h2 h3
          refine h h1 h2 h3 ?_
          rw [HZ.out]
          refine leq_no (fun j hj hl => ?_) (hasO_size h1).1 hil
          have := h4 j hj
          rwa [← HE.out] at this
        have YES : hasO 1 60 ko x = true → 0 < L.length → okP L → ltB z x = true → ∀ j, j < i + 1 → stepI l j := fun h1 h2 h3 h4 j hj => by
          by_cases e : j = i
          · subst e
            intro h
            refine ⟨by rw [← HE.out]; exact h1, by rw [← HE.out]; exact h2, by rw [← HE.out]; exact h3, fun j' hj' => ?_⟩
            rw [HZ.out] at h4
            have := leq_yes h4 j' hj' (by omega)
            rw [← HE.out]; exact this
          · exact HK.out j (by omega)
        have HZ2 := Lib.hid hz2.symm
        obtain ⟨n, hn⟩ : ∃ n, L.length = n := ⟨_, rfl⟩
        have hvs : Vers w w.heap.size (.slice A2 n c2) L := by rw [← hn]; exact hvs
        obtain ⟨d0, d1⟩ := hat _ q0
        have hl2 := hsm.2.1
        rw [hn] at NO YES d1
        have q1 := q0.alloc (.cells #[.string x, .slice A2 n c2] 63)
        have q2 := (Q.refl wr).alloc (.cells #[.string x, .slice A2 n c2] 63)
        have MK := Lib.hid fun d => key_any x d hsm.1
        have HN := Lib.hid hn
        clear hn hat hz2
        cases hk : hasO 1 60 ko x with
        | false =>
          rw [hk] at MK
          have HV := Lib.hid (NO fun h => by rw [hk] at h; simp at h)
          clear NO YES hk hvs hsm hl2
          go_wp2_with fail
          refine (MK.out _).mono ?_
          rintro e w1 ⟨rfl, q3⟩
          go_wp2
          go_ret
          exact ⟨by rw [HV.out]; rfl, q1.trans q3⟩
        | true =>
          rw [hk] at MK
          have hle := ltB_leq x z
          cases hlt2 : ltB z x with
          | false =>
            rw [hlt2] at hle
            have HV := Lib.hid (NO fun _ _ _ h => by rw [hlt2] at h; simp at h)
            have hle2 : (Op.bytesLess x.toList z.toList || x.toList == z.toList) = true := hle
            clear NO YES hk hvs hsm hl2 hle hlt2
            go_wp2_with fail
            refine (MK.out _).mono ?_
            rintro e w1 ⟨rfl, q3⟩
            obtain ⟨b0, b1⟩ := boxE_of q3
            go_wp2
            go_ret
            exact ⟨by rw [HV.out]; rfl, q1.trans q3⟩
          | true =>
            rw [hlt2] at hle
            have hle2 : (Op.bytesLess x.toList z.toList || x.toList == z.toList) = false := hle
            have hle3 : Op.bytesLess x.toList z.toList = false := by cases h : Op.bytesLess x.toList z.toList with
              | false => rfl
              | true => rw [h] at hle2; simp at hle2
            have hle4 : (x.toList == z.toList) = false := by rw [hle3] at hle2; simpa using hle2
            clear hle
            by_cases h0 : n = 0
            · have HV := Lib.hid (NO fun _ h => by omega)
              have hne : ((n : Int) == 0) = true := by simp [h0]
              clear NO YES hk hvs hsm hl2 h0
              go_wp2_with fail
              refine (MK.out _).mono ?_
              rintro e w1 ⟨rfl, q3⟩
              obtain ⟨b0, b1⟩ := boxE_of q3
              go_wp2
              go_ret
              exact ⟨by rw [HV.out]; rfl, q1.trans q3⟩
            · obtain ⟨C, hC⟩ := chkP_ex L
              have MC : Hid (∀ b, Q w b → Calls Tryz.prog 156 #[.slice A2 n c2] b fun e w' => e = .returned (.int .i64 (chkE C)) ∧ Q b w') := Lib.hid (fun b q => check_any L _ b C hC hl2 (hvs.on q))
              have hne : ((n : Int) == 0) = false := by
                have : ¬ (n : Int) = 0 := by omega
                simpa using this
              rcases hC with ⟨rfl, hok⟩ | ⟨rfl, hno⟩
              · have HK2 := Lib.hid (YES hk (by omega) hok hlt2)
                rw [show chkE true = 0 from rfl] at MC
                clear NO YES hk hvs h0 hsm hl2 hlt2 hok
                go_wp2_with fail
                refine (MK.out _).mono ?_
                rintro e w1 ⟨rfl, q3⟩
                obtain ⟨b0, b1⟩ := boxE_of q3
                go_wp2_with fail
                refine (MC.out _ (q1.trans q3)).mono ?_
                rintro e w2 ⟨rfl, q4⟩
                go_wp2
                go_roundw
                case rel => exact ⟨i + 1, x, by omega, by go_num, rfl, HZ2, (q1.trans q3).trans q4, HK2⟩
                case measure => simp [intOf]; omega
              · have HV := Lib.hid (NO fun _ _ h => absurd h hno)
                rw [show chkE false = 1 from rfl] at MC
                clear NO YES hk hvs h0 hsm hl2 hlt2 hno
                go_wp2_with fail
                refine (MK.out _).mono ?_
                rintro e w1 ⟨rfl, q3⟩
                obtain ⟨b0, b1⟩ := boxE_of q3
                go_wp2_with fail
                refine (MC.out _ (q1.trans q3)).mono ?_
                rintro e w2 ⟨rfl, q4⟩
                go_wp2
                go_ret
                exact ⟨by rw [HV.out]; rfl, (q1.trans q3).trans q4⟩
      · have HV := Lib.hid (chkI_end HR.out (fun j h => HK.out j (by omega)))
        go_wp2
        go_ret
        exact ⟨by rw [HV.out]; simp [h60, chkE], q0⟩
  · have HV := Lib.hid (chkI_no HR.out fun o => h60 o.1)
    have h60' : (60 : Int) < (l.length : Int) := by omega
    go_enter Tryz.func101, Tryz.ntmps101
    go_wp2
    go_ret
    exact ⟨by rw [HV.out]; rfl, Q.refl _⟩
end Go.Proofs.YtbilnomafloopaaGreat

namespace Go.Proofs.YtbilnomafloopaaGreat
set_option maxRecDepth 100000
open Go.ChangeShapes Go.WideShapes Go.ChangeAt Go.RowKit
set_option linter.unusedVariables false
set_option linter.unusedSimpArgs false
/-- The index in which a key has these versions. -/
def putE (l : List Ent) (key : ByteArray) (c : List Ver) : List Ent := l.filter (fun e => ltB e.key key) ++ (if c = [] then [] else [⟨key, c⟩]) ++ l.filter (fun e => ltB key e.key)
/-- What Put comes to: refused (1), too large (6), or laid. -/
def PutI (l : List Ent) (key : ByteArray) (c : List Ver) (L : List Ent) (k : Nat) : Prop :=
  (¬ (okI l ∧ hasO 1 60 ko key = true ∧ okP c) ∧ L = [] ∧ k = 1) ∨ ((okI l ∧ hasO 1 60 ko key = true ∧ okP c) ∧ ((60 < (putE l key c).length ∧ L = [] ∧ k = 6) ∨ ((putE l key c).length ≤ 60 ∧ L = putE l key c ∧ k = 0)))
end Go.Proofs.YtbilnomafloopaaGreat

namespace Go.Proofs.YtbilnomafloopaaGreat
set_option maxRecDepth 100000
open Go.ChangeShapes Go.WideShapes Go.ChangeAt Go.RowKit
set_option linter.unusedVariables false
theorem Vers.shape {w : World} {B : Nat} {v : Value} {l : List Ver} (h : Vers w B v l) : ∃ A c, v = .slice A l.length c := by
  obtain ⟨A, c, e, -⟩ := h; exact ⟨A, c, e⟩
end Go.Proofs.YtbilnomafloopaaGreat

namespace Go.Proofs.YtbilnomafloopaaGreat
set_option maxRecDepth 100000
open Go.ChangeShapes Go.WideShapes Go.ChangeAt Go.RowKit
set_option linter.unusedVariables false
set_option linter.unusedSimpArgs false
end Go.Proofs.YtbilnomafloopaaGreat

namespace Go.Proofs.YtbilnomafloopaaGreat
set_option maxRecDepth 100000
open Go.ChangeShapes Go.WideShapes Go.ChangeAt Go.RowKit
set_option linter.unusedVariables false
set_option linter.unusedSimpArgs false
/-- A function as a value. -/
def fnV (g : Nat) : Value := .func (.func g) #[] #[]
/-- The map of how each state lays. -/
def lay0 : Array MapEntry := #[]
open Go.ChangeMaps (setBlock)
end Go.Proofs.YtbilnomafloopaaGreat

namespace Go.Proofs.YtbilnomafloopaaGreat
set_option maxRecDepth 100000
open Go.ChangeShapes Go.WideShapes Go.ChangeAt Go.RowKit
set_option linter.unusedVariables false
set_option linter.unusedSimpArgs false
/-- A version of ID 0. -/
def zeroId (x : Ver) : Ver := { x with id := 0 }
theorem Vers.okAll {w : World} {B : Nat} {v : Value} {l : List Ver} (h : Vers w B v l) : ∀ x ∈ l, okV x := by
  obtain ⟨A, c, e, e0, ez, eo, f⟩ := h; exact eo
end Go.Proofs.YtbilnomafloopaaGreat

namespace Go.Proofs.YtbilnomafloopaaGreat
set_option maxRecDepth 100000
open Go.ChangeShapes Go.WideShapes Go.ChangeAt Go.RowKit
set_option linter.unusedVariables false
set_option linter.unusedSimpArgs false
/-- What a Put comes to: the chain, and the error's number. -/
inductive PutC (l : List Ver) (s : Int) (x : Ver) : List Ver → Nat → Prop
  | chk : ¬ okP l → PutC l s x [] 1
  | state : okP l → (s < 0 ∨ 2 < s) → PutC l s x [] 1
  | may : okP l → 0 ≤ s → s ≤ 2 → mayV x = false → PutC l s x [] 1
  | zero : okP l → s = 1 → mayV x = true → x.id = 0 → PutC l s x [] 1
  | late : okP l → 0 ≤ s → s ≤ 2 → mayV x = true → ¬ (s = 1 ∧ x.id = 0) → (∃ y m, l = y :: m ∧ x.tm < y.tm) → PutC l s x [] 1
  | order : okP l → s = 1 → mayV x = true → x.id ≠ 0 → (∀ y m, l = y :: m → y.tm ≤ x.tm) → l.any (fun y => decide (x.id ≤ y.id)) = true → PutC l s x [] 9
  | large : okP l → s = 1 → mayV x = true → x.id ≠ 0 → (∀ y m, l = y :: m → y.tm ≤ x.tm) → l.any (fun y => decide (x.id ≤ y.id)) = false → 20 ≤ l.length → PutC l s x [] 6
  | on : okP l → s = 1 → mayV x = true → x.id ≠ 0 → (∀ y m, l = y :: m → y.tm ≤ x.tm) → l.any (fun y => decide (x.id ≤ y.id)) = false → l.length < 20 → PutC l s x (x :: l) 0
  | large0 : okP l → (s = 0 ∨ s = 2) → mayV x = true → (∀ y m, l = y :: m → y.tm ≤ x.tm) → 20 ≤ (woV l 0).length → PutC l s x [] 6
  | over : okP l → (s = 0 ∨ s = 2) → mayV x = true → (∀ y m, l = y :: m → y.tm ≤ x.tm) → (woV l 0).length < 20 → PutC l s x (zeroId x :: woV l 0) 0
end Go.Proofs.YtbilnomafloopaaGreat

namespace Go.Proofs.YtbilnomafloopaaGreat
set_option maxRecDepth 100000
open Go.ChangeShapes Go.WideShapes Go.ChangeAt Go.RowKit
set_option linter.unusedVariables false
set_option linter.unusedSimpArgs false
end Go.Proofs.YtbilnomafloopaaGreat

namespace Go.Proofs.YtbilnomafloopaaGreat
set_option maxRecDepth 100000
open Go.ChangeShapes Go.WideShapes Go.ChangeAt Go.RowKit
set_option linter.unusedVariables false
set_option linter.unusedSimpArgs false
/-- What a Drop comes to: the chain, and the error's number. -/
inductive DropC (l : List Ver) (id : Nat) : List Ver → Nat → Prop
  | chk : ¬ okP l → DropC l id [] 1
  | none : okP l → (∀ j (hl : j < l.length), l[j].id ≠ id) → DropC l id [] 4
  | yes : okP l → (∃ i, ∃ h : i < l.length, l[i].id = id) → DropC l id (woV l id) 0
/-- What a Delete comes to. -/
def markV (id : Nat) (tm : Int) : Ver := ⟨id, ⟨#[]⟩, true, tm⟩
def DelC (l : List Ver) (s : Int) (id : Nat) (tm : Int) (L : List Ver) (c : Nat) : Prop :=
  (s = 0 ∧ DropC l 0 L c) ∨ (s ≠ 0 ∧ PutC l s (markV (if s = 2 then 0 else id) tm) L c)
end Go.Proofs.YtbilnomafloopaaGreat

namespace Go.Proofs.YtbilnomafloopaaGreat
set_option maxRecDepth 100000
open Go.ChangeShapes Go.WideShapes Go.ChangeAt Go.RowKit
set_option linter.unusedVariables false
set_option linter.unusedSimpArgs false
set_option maxRecDepth 100000
/-- The place of the upload of an ID; below 0, if there is none. -/
def idxU (l : List Upl) (id : Nat) : Int := match l.findIdx? (fun x => decide (x.id = id)) with
  | some i => (i : Nat)
  | none => -1
end Go.Proofs.YtbilnomafloopaaGreat

namespace Go.Proofs.YtbilnomafloopaaGreat
set_option maxRecDepth 100000
open Go.ChangeShapes Go.WideShapes Go.ChangeAt Go.RowKit
set_option linter.unusedVariables false
set_option linter.unusedSimpArgs false
set_option maxRecDepth 100000
/-- No upload. -/
def noU : Upl := ⟨0, ⟨#[]⟩, []⟩
/-- What Find comes to. -/
inductive FindC (l : List Upl) (id : Nat) : Upl → Nat → Prop
  | arg : ¬ okUps l → FindC l id noU 1
  | none : okUps l → (∀ j (hl : j < l.length), l[j].id ≠ id) → FindC l id noU 4
  | yes (i : Nat) (h : i < l.length) : okUps l → l[i].id = id → (∀ j (hj : j < i) (hl : j < l.length), l[j].id ≠ id) → FindC l id l[i] 0
end Go.Proofs.YtbilnomafloopaaGreat

namespace Go.Proofs.YtbilnomafloopaaGreat
set_option maxRecDepth 100000
open Go.ChangeShapes Go.WideShapes Go.ChangeAt Go.RowKit
set_option linter.unusedVariables false
set_option linter.unusedSimpArgs false
set_option maxRecDepth 100000
def sizP (L : List Prt) : Nat := (L.map fun p => p.data.size).sum
def sizU (l : List Upl) : Nat := (l.map fun u => sizP u.L).sum
theorem sizP_next {L : List Prt} {j : Nat} (h : j < L.length) : sizP (L.take (j + 1)) = sizP (L.take j) + L[j].data.size := by
  rw [List.take_succ_eq_append_getElem h, sizP, sizP, List.map_append, List.sum_append]; simp
theorem sizU_next {l : List Upl} {i : Nat} (h : i < l.length) : sizU (l.take (i + 1)) = sizU (l.take i) + sizP l[i].L := by
  rw [List.take_succ_eq_append_getElem h, sizU, sizU, List.map_append, List.sum_append]; simp
theorem sizP_le {L : List Prt} (h : ∀ x ∈ L, x.data.size ≤ 5000) : sizP L ≤ 5000 * L.length := by
  induction L with
  | nil => simp [sizP]
  | cons y r ih =>
    have h1 := ih fun x hx => h x (List.mem_cons_of_mem _ hx)
    have h2 := h y (List.mem_cons_self ..)
    simp only [sizP, List.map_cons, List.sum_cons, List.length_cons] at h1 ⊢; omega
theorem sizP_top {L : List Prt} (h : ∀ x ∈ L, x.data.size ≤ 5000) (hl : L.length ≤ 1000) (j : Nat) : sizP (L.take j) ≤ 5000000 := by
  have := sizP_le (L := L.take j) fun x hx => h x (List.mem_of_mem_take hx)
  have h2 : (L.take j).length ≤ L.length := by rw [List.length_take]; omega
  omega
theorem sizU_le {l : List Upl} (h : ∀ x ∈ l, smU x) : sizU l ≤ 5000000 * l.length := by
  induction l with
  | nil => simp [sizU]
  | cons y r ih =>
    have h1 := ih fun x hx => h x (List.mem_cons_of_mem _ hx)
    have h2 := h y (List.mem_cons_self ..)
    have h3 := sizP_top h2.2.2 h2.2.1 y.L.length
    rw [List.take_length] at h3
    simp only [sizU, List.map_cons, List.sum_cons, List.length_cons] at h1 ⊢; omega
theorem sizU_top {l : List Upl} (h : smL l) (i : Nat) : sizU (l.take i) ≤ 5000000000 := by
  have := sizU_le (l := l.take i) fun x hx => h.2 x (List.mem_of_mem_take hx)
  have h2 : (l.take i).length ≤ l.length := by rw [List.length_take]; omega
  have := h.1
  omega
set_option maxHeartbeats 8000000 in
theorem octets_any (l : List Upl) (v : Value) (w : World) (hs : smL l) (ht : Upls w w.heap.size v l) :
    Calls Tryz.prog 162 #[v] w fun e w' => e = .returned (.int .i64 (sizU l : Nat)) ∧ Q w w' := by
  have HT := Lib.hid ht
  have HS := Lib.hid hs
  have hl := hs.1
  obtain ⟨A, c, rfl⟩ := ht.form
  clear ht hs
  go_enter Tryz.func162, Tryz.ntmps162
  go_wp2_with fail
  go_loopw [3,5,7,10] (fun S _ _ I wr => ∃ i t : Nat, i ≤ l.length ∧ I = .int .i64 i ∧ S = .int .i64 (t : Nat) ∧ t ≤ 5000000000 ∧ Hid (t = sizU (l.take i)) ∧ Q w wr) (fun _ _ _ I _ => l.length - (intOf I).toNat)
  case atStart => exact ⟨0, 0, Nat.zero_le _, rfl, rfl, by omega, Lib.hid (by simp [sizU]), Q.refl _⟩
  case round =>
    obtain ⟨i, t, hil, rfl, rfl, ht9, HTT, q⟩ := hrel
    by_cases hlt : i < l.length
    · obtain ⟨a, c', hv, ha, A2, c2, hps, hat⟩ := HT.out.pick i hlt
      injection hv with e1 e2 e3
      subst e1 e3
      have hilt : (i : Int) < (l.length : Int) := by omega
      have hsm := HS.out.2 _ (List.getElem_mem hlt)
      have HN := Lib.hid (sizU_next hlt)
      have H9 := Lib.hid (sizU_top HS.out (i + 1))
      obtain ⟨p, hp⟩ : ∃ p, p = l[i] := ⟨_, rfl⟩
      rw [← hp] at hat hps hsm HN
      have HPS := Lib.hid hps
      have HAT : Hid (∀ d, Q w d → d.cell? (a.add (i * 3)) = some (.int .u64 (p.id : Nat)) ∧ d.cell? ⟨(a.add (i * 3)).block, (a.add (i * 3)).off + 1, none⟩ = some (.string p.key) ∧ d.cell? ⟨(a.add (i * 3)).block, (a.add (i * 3)).off + 2, none⟩ = some (.slice A2 p.L.length c2)) := Lib.hid hat
      obtain ⟨u0, u1, u2⟩ := hat _ q
      have hm := hsm.2.1
      obtain ⟨n, hn⟩ : ∃ n, p.L.length = n := ⟨_, rfl⟩
      rw [hn] at u2 HAT hm
      have HSM := Lib.hid hsm
      have HPN := Lib.hid hn
      clear hat e2 hp hps hsm hn
      have q1 := q.alloc (.cells #[.int .u64 (p.id : Nat), .string p.key, .slice A2 n c2] 66)
      go_wp2_with fail
      go_loopw [3, 7, 17] (fun S _ J wz => ∃ j m : Nat, j ≤ n ∧ J = .int .i64 j ∧ S = .int .i64 (m : Nat) ∧ m ≤ 5000000000 ∧ Hid (m = t + sizP (p.L.take j)) ∧ Q w wz) (fun _ _ J _ => n - (intOf J).toNat)
      case atStart => exact ⟨0, t, Nat.zero_le _, rfl, rfl, ht9, Lib.hid (by simp [sizP]), q1⟩
      case round =>
        obtain ⟨j, m, hjn, rfl, rfl, hm9, HM, qz⟩ := hrel
        clear u0 u1 u2
        obtain ⟨u0, u1, u2⟩ := HAT.out _ qz
        by_cases hjl : j < n
        · have hjL : j < p.L.length := by have := HPN.out; omega
          obtain ⟨b, c3, hv3, hb, -, hbt⟩ := HPS.out.pick j hjL
          injection hv3 with f1 f2 f3
          subst f1 f3
          have hjlt : (j : Int) < (n : Int) := by omega
          have hsz := HSM.out.2.2 _ (List.getElem_mem hjL)
          have HJ := Lib.hid (sizP_next hjL)
          obtain ⟨x, hx⟩ : ∃ x, x = p.L[j] := ⟨_, rfl⟩
          rw [← hx] at hbt hsz HJ
          obtain ⟨d0, d1⟩ := hbt _ qz
          have HX : Hid (m + x.data.size = t + sizP (p.L.take (j + 1))) := Lib.hid (by rw [HM.out, HJ.out]; omega)
          have hbound : m + x.data.size ≤ 5000000000 := by
            have h1 := HX.out; have h2 := H9.out; have h3 := HN.out; have h4 := HTT.out
            have h5 : sizP (p.L.take (j + 1)) ≤ sizP p.L := by
              have : p.L = p.L.take (j + 1) ++ p.L.drop (j + 1) := (List.take_append_drop ..).symm
              conv => rhs; rw [this]
              rw [sizP, sizP, List.map_append, List.sum_append]; omega
            omega
          obtain ⟨z, hz⟩ : ∃ z, z = x.data.size := ⟨_, rfl⟩
          clear hbt hx f2
          have q3 := qz.alloc (.cells #[.int .i64 x.n, .string x.data] 88)
          go_wp2
          go_roundw
          case rel => exact ⟨j + 1, m + x.data.size, by omega, by go_num, by go_num, hbound, HX, q3⟩
          case measure => simp [intOf]; omega
        · have HX : Hid (m = sizU (l.take (i + 1))) := Lib.hid (by
            have h1 := HM.out
            have h2 : j = p.L.length := by have := HPN.out; omega
            rw [h2, List.take_length] at h1
            rw [HN.out, ← HTT.out]; exact h1)
          have hjlt : ¬ (j : Int) < (n : Int) := by omega
          go_wp2
          go_roundw
          case rel => exact ⟨i + 1, m, by omega, by go_num, rfl, hm9, HX, qz⟩
          case measure => simp [intOf]; omega
    · have HV : Hid (t = sizU l) := Lib.hid (by have := HTT.out; rw [List.take_of_length_le (by omega)] at this; exact this)
      have hilt : ¬ (i : Int) < (l.length : Int) := by omega
      go_wp2
      go_ret
      exact ⟨by rw [HV.out]; rfl, q⟩
end Go.Proofs.YtbilnomafloopaaGreat

namespace Go.Proofs.YtbilnomafloopaaGreat
set_option maxRecDepth 100000
open Go.ChangeShapes Go.WideShapes Go.ChangeAt Go.RowKit
set_option linter.unusedVariables false
set_option linter.unusedSimpArgs false
set_option maxRecDepth 100000
/-- What Begin comes to. -/
inductive BeginC (l : List Upl) (id : Nat) (key : ByteArray) : List Upl → Nat → Prop
  | arg : ¬ (okUps l ∧ mayB id key = true) → BeginC l id key [] 1
  | order : okUps l → mayB id key = true → (∃ x ∈ l, id ≤ x.id) → BeginC l id key [] 9
  | large : okUps l → mayB id key = true → (∀ x ∈ l, x.id < id) → l.length = 10 → BeginC l id key [] 6
  | yes : okUps l → mayB id key = true → (∀ x ∈ l, x.id < id) → l.length < 10 → BeginC l id key (l ++ [⟨id, key, []⟩]) 0
theorem okUps_lt {l : List Upl} (h : okUps l) (i j : Nat) (hij : i < j) (hj : j < l.length) : (l[i]'(by omega)).id < l[j].id := by
  obtain ⟨d, rfl⟩ : ∃ d, j = i + d + 1 := ⟨j - i - 1, by omega⟩
  induction d with
  | zero => exact (h.2 (i + 1) hj).2 i rfl
  | succ d ih => exact Nat.lt_trans (ih (by omega) (by omega)) ((h.2 (i + (d + 1) + 1) hj).2 (i + d + 1) rfl)
end Go.Proofs.YtbilnomafloopaaGreat

namespace Go.Proofs.YtbilnomafloopaaGreat
set_option maxRecDepth 100000
open Go.ChangeShapes Go.WideShapes Go.ChangeAt Go.RowKit
set_option linter.unusedVariables false
set_option linter.unusedSimpArgs false
set_option maxRecDepth 100000
end Go.Proofs.YtbilnomafloopaaGreat

namespace Go.Proofs.YtbilnomafloopaaGreat
set_option maxRecDepth 100000
open Go.ChangeShapes Go.WideShapes Go.ChangeAt Go.RowKit
set_option linter.unusedVariables false
set_option linter.unusedSimpArgs false
set_option maxRecDepth 100000
/-- The uploads without one. -/
def rmU (l : List Upl) (id : Nat) : List Upl := l.filter fun x => decide (x.id ≠ id)
/-- What Abort comes to. -/
inductive AbortC (l : List Upl) (id : Nat) : List Upl → Nat → Prop
  | arg : ¬ okUps l → AbortC l id [] 1
  | none : okUps l → (∀ j (hl : j < l.length), l[j].id ≠ id) → AbortC l id [] 4
  | yes (i : Nat) (h : i < l.length) : okUps l → l[i].id = id → (∀ j (hj : j < i) (hl : j < l.length), l[j].id ≠ id) → AbortC l id (rmU l id) 0
end Go.Proofs.YtbilnomafloopaaGreat

namespace Go.Proofs.YtbilnomafloopaaGreat
set_option maxRecDepth 100000
open Go.ChangeShapes Go.WideShapes Go.ChangeAt Go.RowKit
set_option linter.unusedVariables false
set_option linter.unusedSimpArgs false
set_option maxRecDepth 100000
/-- One of a slice that is read, ready to be appended to a row of the call's own. -/
theorem Upls.one {w d : World} {v : Value} {l : List Upl} (h : Upls w w.heap.size v l) (q : Q w d) (i : Nat) (hi : i < l.length) {A2 : Option Addr} {c2 : Nat} (hp : Prts w w.heap.size (.slice A2 l[i].L.length c2) l[i].L) : OwnU1 w.heap.size d (l[i], .slice A2 l[i].L.length c2) :=
  ⟨h.okAll _ (List.getElem_mem hi), hp.okAll, (h.okAll _ (List.getElem_mem hi)).2.2, .inl (hp.below q)⟩
end Go.Proofs.YtbilnomafloopaaGreat

namespace Go.Proofs.YtbilnomafloopaaGreat
set_option maxRecDepth 100000
open Go.ChangeShapes Go.WideShapes Go.ChangeAt Go.RowKit
set_option linter.unusedVariables false
set_option linter.unusedSimpArgs false
set_option maxRecDepth 100000
/-- The first k of three lists, one behind the other. -/
def cat3 (l m p : List Prt) (k : Nat) : List Prt := if k = 0 then [] else if k = 1 then l else if k = 2 then l ++ m else l ++ m ++ p
end Go.Proofs.YtbilnomafloopaaGreat

namespace Go.Proofs.YtbilnomafloopaaGreat
set_option maxRecDepth 100000
open Go.ChangeShapes Go.WideShapes Go.ChangeAt Go.RowKit
set_option linter.unusedVariables false
set_option linter.unusedSimpArgs false
set_option maxRecDepth 100000
/-- The parts, in which that of p's number is p. -/
def withP (L : List Prt) (p : Prt) : List Prt := L.filter (fun x => decide (x.n < p.n)) ++ [p] ++ L.filter (fun x => decide (p.n < x.n))
theorem okL_lt {L : List Prt} (h : okL L) (i j : Nat) (hij : i < j) (hj : j < L.length) : (L[i]'(by omega)).n < L[j].n := by
  obtain ⟨d, rfl⟩ : ∃ d, j = i + d + 1 := ⟨j - i - 1, by omega⟩
  induction d with
  | zero => exact (h (i + 1) hj).2 i rfl
  | succ d ih => exact Int.lt_trans (ih (by omega) (by omega)) ((h (i + (d + 1) + 1) hj).2 (i + d + 1) rfl)
end Go.Proofs.YtbilnomafloopaaGreat

namespace Go.Proofs.YtbilnomafloopaaGreat
set_option maxRecDepth 100000
open Go.ChangeShapes Go.WideShapes Go.ChangeAt Go.RowKit
set_option linter.unusedVariables false
/-- A digit, a number's digits without a nought alone, and a number's digits. -/
def dig (n : Nat) : UInt8 := (48 + n % 10).toUInt8
def dg0 (n : Nat) : List UInt8 := if h : n = 0 then [] else dg0 (n / 10) ++ [dig n]
termination_by n
decreasing_by omega
def digs (n : Nat) : List UInt8 := dg0 (n / 10) ++ [dig n]
theorem dg0_zero : dg0 0 = [] := by rw [dg0]; simp
theorem dg0_step {n : Nat} (h : n ≠ 0) : dg0 n = dg0 (n / 10) ++ [dig n] := by rw [dg0, dif_neg h]
/-- The value of digits behind a number. -/
def vd (n : Nat) (l : List UInt8) : Nat := l.foldl (fun n c => 10 * n + (c.toNat - 48)) n
def isD (c : UInt8) : Prop := 48 ≤ c.toNat ∧ c.toNat ≤ 57
theorem dg0_len (k n : Nat) (h : n < 10 ^ k) : (dg0 n).length ≤ k := by
  induction k generalizing n with
  | zero => obtain rfl : n = 0 := by simp at h; exact h
            simp [dg0_zero]
  | succ k ih =>
    by_cases h0 : n = 0
    · subst h0; simp [dg0_zero]
    · rw [dg0_step h0, List.length_append]
      have := ih (n / 10) (by rw [Nat.pow_succ] at h; omega)
      simp; omega
theorem digs_len {n : Nat} (h : n ≤ 1099511627775) : (digs n).length ≤ 13 := by
  rw [digs, List.length_append]
  have := dg0_len 12 (n / 10) (by omega)
  simp; omega
/-- What is told of digits, one by one. -/
def acc (n : Nat) : List UInt8 → Option Nat
  | [] => some n
  | c :: r => if 48 ≤ c.toNat ∧ c.toNat ≤ 57 then (if 10 * n + (c.toNat - 48) ≤ 1099511627775 then acc (10 * n + (c.toNat - 48)) r else none) else none
def num (l : List UInt8) : Option Nat := if l = [] then none else if l.head? = some 48 ∧ l ≠ [48] then none else acc 0 l
end Go.Proofs.YtbilnomafloopaaGreat

namespace Go.Proofs.YtbilnomafloopaaGreat
set_option maxRecDepth 100000
open Go.ChangeShapes Go.WideShapes Go.ChangeAt Go.RowKit
set_option linter.unusedVariables false
/-- The register: one bit, one octet, octets; a tag; a tag of more octets. -/
def poly : Nat := 2197175160
def t1 (c : Nat) : Nat := if c % 2 = 1 then (c / 2) ^^^ poly else c / 2
def t8 (c : Nat) : Nat := t1 (t1 (t1 (t1 (t1 (t1 (t1 (t1 c)))))))
def stp (c x : Nat) : Nat := t8 (c ^^^ x)
def reg (c : Nat) (l : List UInt8) : Nat := l.foldl (fun c x => stp c x.toNat) c
def more (t : Nat) (l : List UInt8) : Nat := 4294967295 - reg (4294967295 - t) l
def crc (l : List UInt8) : Nat := 4294967295 - reg 4294967295 l
/-- Octets by exclusive-or. -/
def xl : List UInt8 → List UInt8 → List UInt8
  | x :: a, y :: b => (x ^^^ y) :: xl a b
  | _, _ => []
/-- A digit of base sixteen; k of them. -/
def hx (d : Nat) : UInt8 := if d < 10 then (48 + d).toUInt8 else (87 + d).toUInt8
def hexk : Nat → Nat → List UInt8
  | 0, _ => []
  | k + 1, t => hexk k (t / 16) ++ [hx (t % 16)]
/-- What the document's Parse reckons of an octet, and of octets. -/
def rv (c : UInt8) : Nat := if 48 ≤ c.toNat ∧ c.toNat ≤ 57 then c.toNat + 4294967296 - 48 else c.toNat + 4294967296 - 87
def rstep (t : Nat) (c : UInt8) : Nat := (16 * t + rv c) % 4294967296
def rawv (l : List UInt8) : Nat := l.foldl rstep 0
/-- A text's tag. -/
def tagP (l : List UInt8) : Option Nat := if hexk 8 (rawv l) = l then some (rawv l) else none
/-- How many there are, as a text; a text's number. -/
def cnt (n : Nat) : List UInt8 := 45 :: digs n
def cntP : List UInt8 → Option Nat
  | [] => none
  | c :: r => if c = 45 then (match num r with | some n => if 1 ≤ n ∧ n ≤ 100 then some n else none | none => none) else none
def readP (l : List UInt8) : Option (Nat × Nat) :=
  match tagP l with
  | some t => some (t, 0)
  | none => match tagP (l.take 8), cntP (l.drop 8) with
    | some t, some n => some (t, n)
    | _, _ => none
/-- A tag's octets; the tag of tags. -/
def oc4 (t : Nat) : List UInt8 := [(t / 16777216).toUInt8, (t / 65536 % 256).toUInt8, (t / 256 % 256).toUInt8, (t % 256).toUInt8]
def manyP (l : List Nat) : List UInt8 := hexk 8 (crc (l.flatMap oc4)) ++ cnt l.length
end Go.Proofs.YtbilnomafloopaaGreat

namespace Go.Proofs.YtbilnomafloopaaGreat
set_option maxRecDepth 100000
open Go.ChangeShapes Go.WideShapes Go.ChangeAt Go.RowKit
set_option linter.unusedVariables false
/-- So many bits more. -/
def t1n : Nat → Nat → Nat
  | 0, c => c
  | k + 1, c => t1n k (t1 c)
end Go.Proofs.YtbilnomafloopaaGreat

namespace Go.Proofs.YtbilnomafloopaaGreat
set_option maxRecDepth 100000
open Go.ChangeShapes Go.WideShapes Go.ChangeAt Go.RowKit
set_option linter.unusedVariables false
end Go.Proofs.YtbilnomafloopaaGreat

namespace Go.Proofs.YtbilnomafloopaaGreat
set_option maxRecDepth 100000
open Go.ChangeShapes Go.WideShapes Go.ChangeAt Go.RowKit
set_option linter.unusedVariables false
/-- The digits of base sixteen. -/
abbrev sym : ByteArray := ⟨#[48, 49, 50, 51, 52, 53, 54, 55, 56, 57, 97, 98, 99, 100, 101, 102]⟩
/-- What is left of a tag, and the digits that are there. -/
def LeftH (n k m : Nat) (t : ByteArray) : Prop := m < 16 ^ k ∧ k + t.size = 8 ∧ hexk 8 n = hexk k m ++ bl t
theorem LeftH.step {n k m : Nat} {t : ByteArray} (h : LeftH n (k + 1) m t) : LeftH n k (m / 16) (mk [hx (m % 16)] ++ t) := by
  obtain ⟨h1, h2, h3⟩ := h
  refine ⟨by rw [Nat.pow_succ] at h1; omega, by rw [ByteArray.size_append, mk_size]; simp; omega, ?_⟩
  rw [h3, hexk, bl_append, bl_mk, List.append_assoc]
theorem LeftH.last {n m : Nat} {t : ByteArray} (h : LeftH n 0 m t) : m = 0 ∧ t.size = 8 ∧ t = mk (hexk 8 n) := by
  obtain ⟨h1, h2, h3⟩ := h
  refine ⟨by simp at h1; exact h1, by omega, ?_⟩
  rw [h3, hexk, List.nil_append, mk_bl]
def szN : Value → Nat | .string s => s.size | _ => 0
/-- What is left of a number, and the digits that are there. -/
def Left (n m : Nat) (t : ByteArray) : Prop := digs n = dg0 m ++ bl t
theorem Left.step {n m : Nat} {t : ByteArray} (h : Left n m t) (hm : m ≠ 0) : Left n (m / 10) (mk [dig m] ++ t) := by
  unfold Left at h ⊢
  rw [h, dg0_step hm, bl_append, bl_mk, List.append_assoc]
theorem Left.size {n m : Nat} {t : ByteArray} (h : Left n m t) (hn : n ≤ 100) : t.size ≤ 13 := by
  have h1 := digs_len (n := n) (by omega)
  unfold Left at h
  rw [h, List.length_append, bl_length] at h1; omega
theorem Left.last {n : Nat} {t : ByteArray} (h : Left n 0 t) : t = mk (digs n) := by
  unfold Left at h
  rw [h, dg0_zero, List.nil_append, mk_bl]
end Go.Proofs.YtbilnomafloopaaGreat

namespace Go.Proofs.YtbilnomafloopaaGreat
set_option maxRecDepth 100000
open Go.ChangeShapes Go.WideShapes Go.ChangeAt Go.RowKit
set_option linter.unusedVariables false
/-- What a digit tells, and digits of a base behind a number. -/
def dv (c : UInt8) : Nat := if 48 ≤ c.toNat ∧ c.toNat ≤ 57 then c.toNat - 48 else if 97 ≤ c.toNat ∧ c.toNat ≤ 102 then c.toNat - 97 + 10 else 16
def nb (b : Nat) : Nat → List UInt8 → Option Nat
  | n, [] => some n
  | n, c :: r => if dv c < b then nb b ((b * n + dv c) % 4294967296) r else none
/-- What is told of how many there are. -/
def cntQ (l : List UInt8) : Option Nat :=
  match nb 10 0 (l.drop 1) with
  | some n => if (1 ≤ n ∧ n ≤ 100) ∧ cnt n = l then some n else none
  | none => none
end Go.Proofs.YtbilnomafloopaaGreat

namespace Go.Proofs.YtbilnomafloopaaGreat
set_option maxRecDepth 100000
open Go.ChangeShapes Go.WideShapes Go.ChangeAt Go.RowKit
set_option linter.unusedVariables false
/-- What number tells. -/
def numV : Option Nat → Value
  | some n => .tuple #[.int .u32 n, .bool true]
  | none => .tuple #[.int .u32 0, .bool false]
/-- What Parse tells. -/
def tagV : Option Nat → Value
  | some n => .tuple #[.int .u32 n, .int .i64 0]
  | none => .tuple #[.int .u32 0, .int .i64 2]
/-- What count tells. -/
def cntV : Option Nat → Value
  | some n => .tuple #[.int .i64 n, .bool true]
  | none => .tuple #[.int .i64 0, .bool false]
/-- What Read tells. -/
def readV : Option (Nat × Nat) → Value
  | some (t, n) => .tuple #[.int .u32 t, .int .i64 n, .int .i64 0]
  | none => .tuple #[.int .u32 0, .int .i64 0, .int .i64 2]
end Go.Proofs.YtbilnomafloopaaGreat

namespace Go.Proofs.YtbilnomafloopaaGreat
set_option maxRecDepth 100000
open Go.ChangeShapes Go.WideShapes Go.ChangeAt Go.RowKit
set_option linter.unusedVariables false
end Go.Proofs.YtbilnomafloopaaGreat

namespace Go.Proofs.YtbilnomafloopaaGreat
set_option maxRecDepth 100000
open Go.ChangeShapes Go.WideShapes Go.ChangeAt Go.RowKit
set_option linter.unusedVariables false
/-- What the document's Read tells. -/
def rreadV : Option (Nat × Nat) → Value
  | some (t, n) => .tuple #[.int .u32 t, .int .i64 n, .bool true]
  | none => .tuple #[.int .u32 0, .int .i64 0, .bool false]
end Go.Proofs.YtbilnomafloopaaGreat

namespace Go.Proofs.YtbilnomafloopaaGreat
set_option maxRecDepth 100000
open Go.ChangeShapes Go.WideShapes Go.ChangeAt Go.RowKit
set_option linter.unusedVariables false
/-- A slice whose elements are these numbers of 32 bits; all of it lies below block B. -/
def Nums (w : World) (B : Nat) (v : Value) (l : List Nat) : Prop :=
  ∃ A c, v = .slice A l.length c ∧ l.length ≤ c ∧ (A = none → c = 0) ∧ ∀ k (h : k < l.length), ∃ a : Addr, A = some a ∧ a.block < B ∧ l[k] < 4294967296 ∧ w.cell? (a.add k) = some (.int .u32 (l[k] : Nat))
theorem Nums.keep {w w' : World} {B : Nat} {v : Value} {l : List Nat} (h : Nums w B v l) (k : ∀ p : Addr, p.block < B → w'.cell? p = w.cell? p) : Nums w' B v l := by
  obtain ⟨A, c, e, e0, ez, f⟩ := h
  refine ⟨A, c, e, e0, ez, fun i hi => ?_⟩
  obtain ⟨a, e1, e2, e3, e4⟩ := f i hi
  exact ⟨a, e1, e2, e3, (k _ (by rw [add_block]; exact e2)).trans e4⟩
theorem Nums.below {w w' : World} {B : Nat} {v : Value} {l : List Nat} (h : Nums w B v l) (k : Below B w w') : Nums w' B v l := h.keep fun _ hp => k.cell hp
theorem Nums.more {w : World} {B B' : Nat} {v : Value} {l : List Nat} (h : Nums w B v l) (k : B ≤ B') : Nums w B' v l := by
  obtain ⟨A, c, e, e0, ez, f⟩ := h
  refine ⟨A, c, e, e0, ez, fun i hi => ?_⟩
  obtain ⟨a, e1, e2, e3⟩ := f i hi
  exact ⟨a, e1, by omega, e3⟩
theorem Nums.on {w w' : World} {v : Value} {l : List Nat} (h : Nums w w.heap.size v l) (k : Q w w') : Nums w' w'.heap.size v l := (h.below k).more k.size
theorem Nums.nil (w : World) (B : Nat) : Nums w B (.slice none 0 0) [] := ⟨none, 0, rfl, Nat.le_refl _, fun _ => rfl, fun k h => absurd h (by simp)⟩
/-- v is a row of the call's own, from block base on, whose octets are l. -/
def Own (base : Nat) (w : World) (v : Value) (l : List UInt8) : Prop := w.ownsRow base 5 1 v l.length (Lib.byteCells l)
theorem Own.nil (base : Nat) (w : World) : Own base w (.slice none 0 0) [] := World.ownsRow_nil w _ _ _
/-- A tag's octets as cells, as a walk spells them. -/
def news (m : Nat) : List Value := [.int .u8 ((m : Int) / 16777216), .int .u8 ((m : Int) / 65536 % 256), .int .u8 ((m : Int) / 256 % 256), .int .u8 ((m : Int) % 256)]
end Go.Proofs.YtbilnomafloopaaGreat

namespace Go.Proofs.YtbilnomafloopaaGreat
set_option maxRecDepth 100000
open Go.ChangeShapes Go.WideShapes Go.ChangeAt Go.RowKit
set_option linter.unusedVariables false
end Go.Proofs.YtbilnomafloopaaGreat

namespace Go.Proofs.YtbilnomafloopaaGreat
set_option maxRecDepth 100000
open Go.ChangeShapes Go.WideShapes Go.ChangeAt Go.RowKit
set_option linter.unusedVariables false
end Go.Proofs.YtbilnomafloopaaGreat

namespace Go.Proofs.YtbilnomafloopaaGreat
set_option maxRecDepth 100000
open Go.ChangeShapes Go.WideShapes Go.ChangeAt Go.RowKit
set_option linter.unusedVariables false
set_option linter.unusedSimpArgs false
set_option maxRecDepth 100000
/-- What Lay comes to. -/
inductive LayC (l : List Upl) (id : Nat) (p : Prt) : List Upl → Nat → Nat → Prop
  | arg : ¬ (okUps l ∧ mayP p = true) → LayC l id p [] 0 1
  | none : okUps l → mayP p = true → (∀ j (hl : j < l.length), l[j].id ≠ id) → LayC l id p [] 0 4
  | large (i : Nat) (h : i < l.length) : okUps l → mayP p = true → l[i].id = id → (∀ j (hj : j < i) (hl : j < l.length), l[j].id ≠ id) → 30 < (withP l[i].L p).length → LayC l id p [] 0 6
  | yes (i : Nat) (h : i < l.length) : okUps l → mayP p = true → l[i].id = id → (∀ j (hj : j < i) (hl : j < l.length), l[j].id ≠ id) → ¬ 30 < (withP l[i].L p).length → LayC l id p (l.set i { l[i] with L := withP l[i].L p }) (crc (bl p.data)) 0
end Go.Proofs.YtbilnomafloopaaGreat

namespace Go.Proofs.YtbilnomafloopaaGreat
set_option maxRecDepth 100000
open Go.ChangeShapes Go.WideShapes Go.ChangeAt Go.RowKit
set_option linter.unusedVariables false
set_option linter.unusedSimpArgs false
set_option maxRecDepth 100000
def noP : Prt := ⟨0, ⟨#[]⟩⟩
/-- The part of a number, and whether it is there. -/
inductive PartC (L : List Prt) (n : Int) : Prt → Bool → Prop
  | yes (i : Nat) (h : i < L.length) : L[i].n = n → (∀ j (hj : j < i) (hl : j < L.length), L[j].n ≠ n) → PartC L n L[i] true
  | no : (∀ j (hl : j < L.length), L[j].n ≠ n) → PartC L n noP false
theorem partC_ex (L : List Prt) (n : Int) : ∃ r b, PartC L n r b := by
  by_cases h : ∃ i, ∃ hi : i < L.length, L[i].n = n
  · obtain ⟨i, hi, e⟩ := h
    induction i using Nat.strongRecOn with
    | ind i ih =>
      by_cases k : ∃ j, ∃ hj : j < i, ∃ hl : j < L.length, L[j].n = n
      · obtain ⟨j, hj, hl, e'⟩ := k
        exact ih j hj hl e'
      · exact ⟨_, _, .yes i hi e fun j hj hl e' => k ⟨j, hj, hl, e'⟩⟩
  · exact ⟨_, _, .no fun j hl e => h ⟨j, hl, e⟩⟩
/-- The octets of the part of a number; none, if it is not there. -/
noncomputable def partD (L : List Prt) (n : Int) : ByteArray := (Classical.choose (partC_ex L n)).data
/-- Does a piece lack its part? -/
noncomputable def lackB (L : List Prt) (x : Pce) : Bool := by
  classical exact decide (¬ ∃ p, PartC L x.n p true ∧ crc (bl p.data) = x.tag)
noncomputable def lackO (L : List Prt) (x : Pce) : Bool := decide ((partD L x.n).size < 5)
end Go.Proofs.YtbilnomafloopaaGreat

