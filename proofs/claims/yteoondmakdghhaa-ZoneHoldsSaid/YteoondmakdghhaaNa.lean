/-
  Small words shared by the proofs of this seat: worlds that only grow, texts as lists of octets, slices of texts. Plain facts on devices: what may be, what each command comes to, what a crash keeps. Plain facts on devices: other zones, writing with fuel and without, acts one behind the other, what a crash leaves. Plain facts on devices, for the laws: acts that never fail, what grows, with fuel, what a crash keeps of it. A row of texts behind a row of texts. Boxes as whole blocks; what leaves all but one block as it is. Versions: as values, as cells, as slices; what may be. Slices of versions: as they lie in memory, made by a call, and opened as arguments.
-/
import Derived.Test.YteoondmakdghhaaRows
import Derived.WalkKit
import Derived.ProofKit
import Derived.WalkSpells
import Derived.Below
import Derived.Lib.Hide
import Derived.Deep.QuietTactic
import Derived.BigQuiet
import Derived.RegionTactic
import Derived.WalkSmall
import Derived.OwnWalk
import Derived.OneCell
import Derived.Laws.OwnMore
import Derived.Laws.EntriesVeiled
import Derived.Laws.IdiomStrings
import Derived.Lib.AppendStr
import Derived.Lib.UnsafeStr
import Derived.Deep.AppendLies
import Derived.Maps.OwnIn
import Derived.OpenShut
import Derived.ShutString
import Derived.ChangeOld
import Derived.ChangeSlices
import Derived.Lib.SmallJoins
import Derived.Deep.Slices
import Derived.Carry
namespace Go.Proofs.Yteoondmakdghhaa
set_option maxRecDepth 100000
open Go.ChangeShapes Go.WideShapes Go.ChangeAt Go.RowKit
/-- What the walk puts in order behind each operation that is taken. -/
theorem PS {α : Type} : (∀ (l : List α) (i : Nat) (h : i < l.toArray.size), l.toArray[i]'h = l[i]'(by simpa using h)) ∧ (∀ (a : α) (l : List α) (h : 0 < (a :: l).length), (a :: l)[0]'h = a) ∧ (∀ (a : α) (l : List α) (i : Nat) (h : i + 1 < (a :: l).length), (a :: l)[i + 1]'h = l[i]'(Nat.lt_of_succ_lt_succ h)) ∧ (∀ (l : List α) (i : Nat) (a : α), l.toArray.setIfInBounds i a = (l.set i a).toArray) ∧ (∀ (x y : α) (l : List α), (x :: l).set 0 y = y :: l) ∧ (∀ (x y : α) (l : List α) (i : Nat), (x :: l).set (i + 1) y = x :: l.set i y) :=
  ⟨fun _ _ _ => List.getElem_toArray _, fun _ _ _ => rfl, fun _ _ _ _ => rfl, fun _ _ _ => List.setIfInBounds_toArray .., fun _ _ _ => rfl, fun _ _ _ _ => rfl⟩
/-- Nothing that was there has changed; memory may have grown. -/
def Q (w w' : World) : Prop := Below w.heap.size w w'
theorem Q.refl (w : World) : Q w w := Below.refl _ _
theorem Q.trans {a b c : World} (h : Q a b) (k : Q b c) : Q a c := Below.trans h (Below.mono k h.size)
theorem Q.drew {a b : World} (h : Q a b) : Q a b.drew := Below.drew h
theorem Q.alloc {a b : World} (h : Q a b) (o : Obj) : Q a (b.alloc o) := Below.alloc h h.size o
theorem Q.size {a b : World} (h : Q a b) : a.heap.size ≤ b.heap.size := Below.size h
/-- A text's octets, and the text of octets. -/
def bl (s : ByteArray) : List UInt8 := s.data.toList
def mk (l : List UInt8) : ByteArray := ⟨l.toArray⟩
theorem bl_mk (l : List UInt8) : bl (mk l) = l := rfl
theorem mk_bl (s : ByteArray) : mk (bl s) = s := rfl
theorem bl_length (s : ByteArray) : (bl s).length = s.size := Array.length_toList
theorem mk_size (l : List UInt8) : (mk l).size = l.length := by rw [← bl_length, bl_mk]
theorem bl_inj {a b : ByteArray} (h : bl a = bl b) : a = b := by rw [← mk_bl a, ← mk_bl b, h]
theorem bl_append (a b : ByteArray) : bl (a ++ b) = bl a ++ bl b := by simp [bl]
theorem bl_extract (s : ByteArray) (i j : Nat) : bl (s.extract i j) = ((bl s).drop i).take (j - i) := by
  simp [bl]
theorem toList_bl (s : ByteArray) : s.toList = bl s := ByteArray.toList_eq s
theorem size_cut (s : ByteArray) {a b : Nat} (h : b ≤ s.size) : (s.extract a b).size = b - a := by
  rw [← bl_length, bl_extract, List.length_take, List.length_drop, bl_length]; omega
theorem eq_texts (a b : ByteArray) : (a.toList == b.toList) = decide (a = b) := by
  rw [toList_bl, toList_bl]
  by_cases h : a = b
  · subst h; simp
  · have : ¬ bl a = bl b := fun e => h (bl_inj e)
    simp [h, this]
theorem nil_text (a : ByteArray) : a.toList = [] ↔ a.size = 0 := by
  rw [toList_bl, ← bl_length]; exact List.length_eq_zero_iff.symm
/-- A slice whose elements are these texts; all of it lies below block B. -/
def Txts (w : World) (B : Nat) (v : Value) (l : List ByteArray) : Prop :=
  ∃ A c, v = .slice A l.length c ∧ ∀ k (h : k < l.length), ∃ a : Addr, A = some a ∧ a.block < B ∧ w.cell? (a.add k) = some (.string l[k])
theorem add_block (a : Addr) (n : Nat) : (a.add n).block = a.block := by unfold Addr.add; split <;> rfl
theorem Txts.keep {w w' : World} {B : Nat} {v : Value} {l : List ByteArray} (h : Txts w B v l) (k : ∀ p : Addr, p.block < B → w'.cell? p = w.cell? p) : Txts w' B v l := by
  obtain ⟨A, c, e, f⟩ := h
  refine ⟨A, c, e, fun i hi => ?_⟩
  obtain ⟨a, e1, e2, e3⟩ := f i hi
  exact ⟨a, e1, e2, (k _ (by rw [add_block]; exact e2)).trans e3⟩
theorem Txts.below {w w' : World} {B : Nat} {v : Value} {l : List ByteArray} (h : Txts w B v l) (k : Below B w w') : Txts w' B v l := h.keep fun _ hp => k.cell hp
theorem Txts.more {w : World} {B B' : Nat} {v : Value} {l : List ByteArray} (h : Txts w B v l) (k : B ≤ B') : Txts w B' v l := by
  obtain ⟨A, c, e, f⟩ := h
  refine ⟨A, c, e, fun i hi => ?_⟩
  obtain ⟨a, e1, e2, e3⟩ := f i hi
  exact ⟨a, e1, by omega, e3⟩
theorem Txts.on {w w' : World} {v : Value} {l : List ByteArray} (h : Txts w w.heap.size v l) (k : Q w w') : Txts w' w'.heap.size v l := (h.below k).more k.size
theorem Txts.nil (w : World) (B : Nat) : Txts w B (.slice none 0 0) [] := ⟨none, 0, rfl, fun k h => absurd h (by simp)⟩
/-- A row of texts that the call itself has made. -/
theorem Txts.own {w : World} {base e : Nat} {v : Value} {n : Nat} {l : List ByteArray} (h : w.ownsRow base e 1 v n (l.map Value.string)) : Txts w w.heap.size v l := by
  have hn : n = l.length := by have := h.1; simpa using this.symm
  subst hn
  rcases h.2 with ⟨rfl, h0⟩ | ⟨g, cap, cur, rfl, hb, hg, h1, h2, h3, h4⟩
  · rw [List.length_eq_zero_iff.1 h0]; exact Txts.nil _ _
  · refine ⟨_, _, rfl, fun k hk => ⟨⟨g, 0, none⟩, rfl, lt_of_block hg, ?_⟩⟩
    exact h.cells (g := g) rfl k _ (by simp [hk])
end Go.Proofs.Yteoondmakdghhaa

namespace Go.Proofs.Yteoondmakdghhaa
set_option maxRecDepth 100000
open Go.ChangeShapes Go.WideShapes Go.ChangeAt Go.RowKit
set_option linter.unusedVariables false
set_option linter.unusedSimpArgs false
/-- cellarer/api.Zone, and api.Device, as plain values. -/
structure Zn where
  b : List ByteArray
  firm : Int
  full : Bool
structure Dv where
  zs : List Zn
  size : Int
  mo : Int
  fuel : Int
  off : Bool
  bad : Int
def noZn : Zn := ⟨[], 0, false⟩
def noDv : Dv := ⟨[], 0, 0, 0, false, 0⟩
def isOpen (z : Zn) : Bool := decide (0 < z.b.length) && !z.full
def openN (l : List Zn) : Nat := (l.filter isOpen).length
def okZn (n : Int) (z : Zn) : Bool := decide ((z.b.length : Int) ≤ n) && (decide (0 ≤ z.firm) && (decide (z.firm ≤ z.b.length) && (z.b.all (fun s => decide (s.size = 64)) && ((!decide ((z.b.length : Int) = n) || z.full) && (!decide (z.b.length = 0) || !z.full)))))
theorem okZn_iff {n : Int} {z : Zn} : okZn n z = true ↔ (z.b.length : Int) ≤ n ∧ 0 ≤ z.firm ∧ z.firm ≤ z.b.length ∧ (∀ s ∈ z.b, s.size = 64) ∧ ((z.b.length : Int) = n → z.full = true) ∧ (z.b.length = 0 → z.full = false) := by
  have h1 : ∀ (p : Prop) [Decidable p] (c : Bool), ((!decide p || c) = true ↔ (p → c = true)) := fun p _ c => by by_cases h : p <;> simp [h]
  unfold okZn
  rw [Bool.and_eq_true, Bool.and_eq_true, Bool.and_eq_true, Bool.and_eq_true, Bool.and_eq_true, h1, h1]
  simp only [decide_eq_true_eq, List.all_eq_true, Bool.not_eq_true']
def mayD (d : Dv) : Bool := decide (1 ≤ d.zs.length) && (decide (d.zs.length ≤ 40) && (decide (1 ≤ d.size) && (decide (d.size ≤ 300) && (decide (1 ≤ d.mo) && (decide (-1 ≤ d.fuel) && (decide (0 ≤ d.bad) && (d.zs.all (okZn d.size) && decide ((openN d.zs : Int) ≤ d.mo))))))))
theorem mayD_iff {d : Dv} : mayD d = true ↔ 1 ≤ d.zs.length ∧ d.zs.length ≤ 40 ∧ 1 ≤ d.size ∧ d.size ≤ 300 ∧ 1 ≤ d.mo ∧ -1 ≤ d.fuel ∧ 0 ≤ d.bad ∧ (∀ z ∈ d.zs, okZn d.size z = true) ∧ (openN d.zs : Int) ≤ d.mo := by
  unfold mayD
  rw [Bool.and_eq_true, Bool.and_eq_true, Bool.and_eq_true, Bool.and_eq_true, Bool.and_eq_true, Bool.and_eq_true, Bool.and_eq_true, Bool.and_eq_true]
  simp only [decide_eq_true_eq, List.all_eq_true]
theorem openN_set (l : List Zn) (i : Nat) (h : i < l.length) (x : Zn) : openN (l.set i x) + (if isOpen l[i] = true then 1 else 0) = openN l + (if isOpen x = true then 1 else 0) := by
  induction l generalizing i with
  | nil => simp at h
  | cons y r ih =>
    cases i with
    | zero =>
      simp only [List.set_cons_zero, List.getElem_cons_zero, openN, List.filter_cons]
      by_cases h1 : isOpen y = true <;> by_cases h2 : isOpen x = true <;> simp [h1, h2] <;> omega
    | succ i =>
      have := ih i (by simpa using h)
      simp only [List.set_cons_succ, List.getElem_cons_succ, openN, List.filter_cons] at this ⊢
      by_cases h1 : isOpen y = true <;> simp [h1] <;> omega
/-- A command that burns; one that is refused. -/
def burnD (d : Dv) : Dv × Bool := if d.off = true ∨ d.fuel = 0 then ({ d with off := true }, false) else ({ d with fuel := if 0 < d.fuel then d.fuel - 1 else d.fuel }, true)
def refD (d : Dv) : Dv := { d with bad := if d.bad = 9223372036854775807 then 0 else d.bad + 1 }
def setZn (d : Dv) (i : Nat) (x : Zn) : Dv := { d with zs := d.zs.set i x }
def atZn (d : Dv) (i : Nat) : Zn := d.zs[i]?.getD noZn
theorem atZn_is {d : Dv} {i : Nat} (h : i < d.zs.length) : atZn d i = d.zs[i] := by unfold atZn; rw [List.getElem?_eq_getElem h]; rfl
/-- Octets as blocks. -/
def blocksOf (s : ByteArray) (n : Nat) : List ByteArray := (List.range n).map fun i => s.extract (64 * i) (64 * i + 64)
theorem blocksOf_len (s : ByteArray) (n : Nat) : (blocksOf s n).length = n := by simp [blocksOf]
theorem blocksOf_size {s : ByteArray} {n : Nat} (h : s.size = 64 * n) : ∀ b ∈ blocksOf s n, b.size = 64 := by
  intro b hb
  obtain ⟨i, hi, rfl⟩ := List.mem_map.1 hb
  have hi := List.mem_range.1 hi
  rw [size_cut _ (by omega)]; omega
theorem blocksOf_succ (s : ByteArray) (n : Nat) : blocksOf s (n + 1) = blocksOf s n ++ [s.extract (64 * n) (64 * n + 64)] := by simp [blocksOf, List.range_succ]
/-- Some blocks written into zone i, which is x so far. -/
def writeD (i : Nat) : Dv → Zn → List ByteArray → Dv × Nat
  | d, _, [] => (d, 0)
  | d, x, b :: r => if (burnD d).2 = true then writeD i (setZn (burnD d).1 i ⟨x.b ++ [b], x.firm, decide ((x.b.length : Int) + 1 = d.size)⟩) ⟨x.b ++ [b], x.firm, decide ((x.b.length : Int) + 1 = d.size)⟩ r else ((burnD d).1, 10)
def hasZ (d : Dv) (z : Int) : Prop := 0 ≤ z ∧ z < d.zs.length
instance (d : Dv) (z : Int) : Decidable (hasZ d z) := by unfold hasZ; exact inferInstance
/-- What Append comes to, and the error's number. -/
def appD (d : Dv) (z : Int) (s : ByteArray) : Dv × Nat :=
  if mayD d = false ∨ s.size = 0 ∨ s.size % 64 ≠ 0 then (noDv, 1)
  else if hasZ d z then
    if (atZn d z.toNat).full = true ∨ d.size < ((atZn d z.toNat).b.length : Int) + (s.size / 64 : Nat) ∨ ((atZn d z.toNat).b.length = 0 ∧ d.mo ≤ openN d.zs) then (refD d, 8)
    else writeD z.toNat d (atZn d z.toNat) (blocksOf s (s.size / 64))
  else (refD d, 12)
def finD (d : Dv) (z : Int) : Dv × Nat :=
  if mayD d = false then (noDv, 1)
  else if hasZ d z then
    if (atZn d z.toNat).full = true ∨ (atZn d z.toNat).b.length = 0 then (refD d, 8)
    else if (burnD d).2 = true then (setZn (burnD d).1 z.toNat { atZn d z.toNat with full := true }, 0) else ((burnD d).1, 10)
  else (refD d, 12)
def resD (d : Dv) (z : Int) : Dv × Nat :=
  if mayD d = false then (noDv, 1)
  else if hasZ d z then
    if (atZn d z.toNat).b.length = 0 then (refD d, 8)
    else if (burnD d).2 = true then (setZn (burnD d).1 z.toNat noZn, 0) else ((burnD d).1, 10)
  else (refD d, 12)
def firmZ (z : Zn) : Zn := { z with firm := (z.b.length : Nat) }
def fluD (d : Dv) : Dv × Nat :=
  if mayD d = false then (noDv, 1)
  else if (burnD d).2 = true then ({ (burnD d).1 with zs := d.zs.map firmZ }, 0) else ((burnD d).1, 10)
/-- api.Loss, as a plain value. -/
structure Ls where
  keep : List Int
  zone : Int
  cut : Int
def tearB (s : ByteArray) (c : Int) : ByteArray := mk ((bl s).take c.toNat ++ List.replicate (64 - c.toNat) 0)
/-- How many blocks of a zone stay. -/
def keptN (l : Ls) (i : Nat) (z : Zn) : Nat := min z.b.length (z.firm.toNat + (l.keep[i]?.getD 0).toNat)
def crashB (l : Ls) (i : Nat) (z : Zn) : List ByteArray :=
  z.b.take (keptN l i z) ++ (if (i : Int) = l.zone ∧ 0 < l.cut then ((z.b.drop (keptN l i z)).take 1).map (fun s => tearB s l.cut) else [])
def crashZ (l : Ls) (i : Nat) (z : Zn) : Zn := ⟨crashB l i z, ((crashB l i z).length : Nat), decide (0 < (crashB l i z).length)⟩
def crashD (d : Dv) (l : Ls) : Dv :=
  if mayD d = false then noDv
  else { d with zs := (List.range d.zs.length).map (fun i => crashZ l i (atZn d i)), off := false, fuel := -1 }
def newD (n s o : Int) : Dv × Nat :=
  if 1 ≤ n ∧ n ≤ 40 ∧ 1 ≤ s ∧ s ≤ 300 ∧ 1 ≤ o then (⟨List.replicate n.toNat noZn, s, o, -1, false, 0⟩, 0) else (noDv, 1)
def fuelD (d : Dv) (n : Int) : Dv × Nat := if mayD d = false ∨ n < -1 then (noDv, 1) else ({ d with fuel := n }, 0)
theorem openN_rep (n : Nat) : openN (List.replicate n noZn) = 0 := by
  unfold openN
  rw [List.length_eq_zero_iff, List.filter_eq_nil_iff]
  intro z hz
  rw [(List.mem_replicate.1 hz).2]; decide
theorem new_may {n s o : Int} (h : 1 ≤ n ∧ n ≤ 40 ∧ 1 ≤ s ∧ s ≤ 300 ∧ 1 ≤ o) : mayD (newD n s o).1 = true := by
  unfold newD
  rw [if_pos h]
  refine mayD_iff.2 ⟨by simp; omega, by simp; omega, h.2.2.1, h.2.2.2.1, h.2.2.2.2, by show (-1 : Int) ≤ -1; omega, Int.le_refl _, fun z hz => ?_, ?_⟩
  · rw [(List.mem_replicate.1 hz).2]
    exact okZn_iff.2 ⟨by show ((0 : Nat) : Int) ≤ s; omega, Int.le_refl _, Int.le_refl _, by simp [noZn], fun e => by simp [noZn] at e; omega, fun _ => rfl⟩
  · show ((openN (List.replicate n.toNat noZn) : Nat) : Int) ≤ o
    rw [openN_rep]; omega
theorem ref_may {d : Dv} (h : mayD d = true) : mayD (refD d) = true := by
  obtain ⟨h1, h2, h3, h4, h5, h6, h7, h8, h9⟩ := mayD_iff.1 h
  refine mayD_iff.2 ⟨h1, h2, h3, h4, h5, h6, ?_, h8, h9⟩
  show 0 ≤ (if d.bad = 9223372036854775807 then 0 else d.bad + 1)
  split <;> omega
theorem burn_may {d : Dv} (h : mayD d = true) : mayD (burnD d).1 = true := by
  obtain ⟨h1, h2, h3, h4, h5, h6, h7, h8, h9⟩ := mayD_iff.1 h
  unfold burnD
  split
  · exact mayD_iff.2 ⟨h1, h2, h3, h4, h5, h6, h7, h8, h9⟩
  · refine mayD_iff.2 ⟨h1, h2, h3, h4, h5, ?_, h7, h8, h9⟩
    show -1 ≤ (if 0 < d.fuel then d.fuel - 1 else d.fuel)
    split <;> omega
theorem burn_zs (d : Dv) : (burnD d).1.zs = d.zs := by unfold burnD; split <;> rfl
theorem burn_sz (d : Dv) : (burnD d).1.size = d.size := by unfold burnD; split <;> rfl
theorem burn_mo (d : Dv) : (burnD d).1.mo = d.mo := by unfold burnD; split <;> rfl
theorem burn_bad (d : Dv) : (burnD d).1.bad = d.bad := by unfold burnD; split <;> rfl
theorem set_may {d : Dv} (h : mayD d = true) {i : Nat} (hi : i < d.zs.length) {x : Zn} (hx : okZn d.size x = true) (ho : isOpen x = true → isOpen d.zs[i] = true ∨ (openN d.zs : Int) < d.mo) : mayD (setZn d i x) = true := by
  obtain ⟨h1, h2, h3, h4, h5, h6, h7, h8, h9⟩ := mayD_iff.1 h
  refine mayD_iff.2 ⟨by simpa [setZn] using h1, by simpa [setZn] using h2, h3, h4, h5, h6, h7, fun z hz => ?_, ?_⟩
  · rcases List.mem_or_eq_of_mem_set hz with hz | rfl
    · exact h8 z hz
    · exact hx
  · have := openN_set d.zs i hi x
    show ((openN (d.zs.set i x) : Nat) : Int) ≤ d.mo
    by_cases hox : isOpen x = true
    · rw [if_pos hox] at this
      rcases ho hox with k | k
      · rw [if_pos k] at this; omega
      · split at this <;> omega
    · rw [if_neg hox] at this
      split at this <;> omega
/-- Writing some blocks: what is kept of the device, and that it may be. -/
theorem write_may : ∀ (bs : List ByteArray) (i : Nat) (d : Dv) (x : Zn), mayD d = true → (hi : i < d.zs.length) → d.zs[i] = x → (∀ b ∈ bs, b.size = 64) → (x.b.length : Int) + (bs.length : Nat) ≤ d.size → (bs ≠ [] → x.full = false) → (bs ≠ [] → x.b.length = 0 → (openN d.zs : Int) < d.mo) →
    mayD (writeD i d x bs).1 = true ∧ (writeD i d x bs).1.zs.length = d.zs.length ∧ (writeD i d x bs).1.mo = d.mo ∧ (writeD i d x bs).1.size = d.size ∧ (writeD i d x bs).1.bad = d.bad
  | [], i, d, x, h, hi, hx, hb, hl, hf, ho => ⟨h, rfl, rfl, rfl, rfl⟩
  | b :: r, i, d, x, h, hi, hx, hb, hl, hf, ho => by
    rw [writeD]
    by_cases hu : (burnD d).2 = true
    · rw [if_pos hu]
      have hz := h
      obtain ⟨h1, h2, h3, h4, h5, h6, h7, h8, h9⟩ := mayD_iff.1 h
      have hx8 := okZn_iff.1 (h8 x (by rw [← hx]; exact List.getElem_mem hi))
      have hi2 : i < (burnD d).1.zs.length := by rw [burn_zs]; exact hi
      have hll : ((b :: r).length : Int) = (r.length : Int) + 1 := by simp
      have okx : okZn (burnD d).1.size ⟨x.b ++ [b], x.firm, decide ((x.b.length : Int) + 1 = d.size)⟩ = true := by
        rw [burn_sz]
        refine okZn_iff.2 ⟨by simp only [List.length_append, List.length_singleton]; omega, hx8.2.1, by simp only [List.length_append, List.length_singleton]; omega, fun s hs => ?_, fun e => ?_, fun e => by simp at e⟩
        · rcases List.mem_append.1 hs with hs | hs
          · exact hx8.2.2.2.1 s hs
          · rw [List.mem_singleton.1 hs]; exact hb b (by simp)
        · simp only [List.length_append, List.length_singleton] at e ⊢
          simp; omega
      have hset : mayD (setZn (burnD d).1 i ⟨x.b ++ [b], x.firm, decide ((x.b.length : Int) + 1 = d.size)⟩) = true := by
        refine set_may (burn_may h) hi2 okx fun _ => ?_
        simp only [burn_zs, burn_mo]
        by_cases h0 : x.b.length = 0
        · exact .inr (ho (by simp) h0)
        · left; rw [hx]; unfold isOpen; rw [hf (by simp)]; simp; omega
      have hlen : (setZn (burnD d).1 i ⟨x.b ++ [b], x.firm, decide ((x.b.length : Int) + 1 = d.size)⟩).zs.length = d.zs.length := by simp [setZn, burn_zs]
      have ih := write_may r i (setZn (burnD d).1 i ⟨x.b ++ [b], x.firm, decide ((x.b.length : Int) + 1 = d.size)⟩) ⟨x.b ++ [b], x.firm, decide ((x.b.length : Int) + 1 = d.size)⟩ hset (by rw [hlen]; exact hi) (by simp [setZn]) (fun c hc => hb c (by simp [hc]))
        (by simp only [setZn, burn_sz, List.length_append, List.length_singleton]; omega) (fun hr => by
          have : 0 < r.length := by cases r with
            | nil => exact absurd rfl hr
            | cons => simp
          simp; omega) (fun _ e => by simp at e)
      refine ⟨ih.1, ih.2.1.trans hlen, ih.2.2.1.trans (burn_mo d), ih.2.2.2.1.trans (burn_sz d), ih.2.2.2.2.trans (burn_bad d)⟩
    · rw [if_neg hu]
      exact ⟨burn_may h, by rw [burn_zs], burn_mo d, burn_sz d, burn_bad d⟩
end Go.Proofs.Yteoondmakdghhaa

namespace Go.Proofs.Yteoondmakdghhaa
set_option maxRecDepth 100000
open Go.ChangeShapes Go.WideShapes Go.ChangeAt Go.RowKit
set_option linter.unusedVariables false
set_option linter.unusedSimpArgs false
theorem write_other : ∀ (bs : List ByteArray) (i : Nat) (d : Dv) (x : Zn), (writeD i d x bs).1.zs.length = d.zs.length ∧ ∀ j, j ≠ i → (writeD i d x bs).1.zs[j]? = d.zs[j]?
  | [], i, d, x => ⟨rfl, fun _ _ => rfl⟩
  | b :: r, i, d, x => by
    rw [writeD]
    split
    · have ih := write_other r i (setZn (burnD d).1 i ⟨x.b ++ [b], x.firm, decide ((x.b.length : Int) + 1 = d.size)⟩) ⟨x.b ++ [b], x.firm, decide ((x.b.length : Int) + 1 = d.size)⟩
      refine ⟨by rw [ih.1]; simp [setZn, burn_zs], fun j hj => ?_⟩
      rw [ih.2 j hj]
      show ((burnD d).1.zs.set i _)[j]? = _
      rw [List.getElem?_set_ne (fun e => hj e.symm), burn_zs]
    · exact ⟨by rw [burn_zs], fun j _ => by rw [burn_zs]⟩
theorem set_other (d : Dv) (i : Nat) (x : Zn) : (setZn d i x).zs.length = d.zs.length ∧ ∀ j, j ≠ i → (setZn d i x).zs[j]? = d.zs[j]? :=
  ⟨by simp [setZn], fun j hj => by show (d.zs.set i x)[j]? = _; rw [List.getElem?_set_ne (fun e => hj e.symm)]⟩
/-- All zones but one are as they were. -/
def Others (z : Int) (d x : Dv) : Prop := x.zs.length = d.zs.length ∧ ∀ j : Nat, (j : Int) ≠ z → x.zs[j]? = d.zs[j]?
theorem Others.refl (z : Int) (d : Dv) : Others z d d := ⟨rfl, fun _ _ => rfl⟩
theorem others_burn {z : Int} {d x : Dv} (h : Others z (burnD d).1 x) : Others z d x := ⟨h.1.trans (by rw [burn_zs]), fun j hj => (h.2 j hj).trans (by rw [burn_zs])⟩
theorem app_others {d : Dv} {z : Int} {s : ByteArray} (h : (appD d z s).2 ≠ 1) : Others z d (appD d z s).1 := by
  unfold appD at h ⊢
  split
  · rename_i a; rw [if_pos a] at h; exact absurd rfl h
  · split
    · rename_i hz
      split
      · exact Others.refl _ _
      · have := write_other (blocksOf s (s.size / 64)) z.toNat d (atZn d z.toNat)
        exact ⟨this.1, fun j hj => this.2 j (fun e => hj (by have := hz.1; omega))⟩
    · exact Others.refl _ _
theorem fin_others {d : Dv} {z : Int} (h : (finD d z).2 ≠ 1) : Others z d (finD d z).1 := by
  unfold finD at h ⊢
  split
  · rename_i a; rw [if_pos a] at h; exact absurd rfl h
  · split
    · rename_i hz
      split
      · exact Others.refl _ _
      · split
        · have := set_other (burnD d).1 z.toNat { atZn d z.toNat with full := true }
          exact others_burn ⟨this.1, fun j hj => this.2 j (fun e => hj (by have := hz.1; omega))⟩
        · exact others_burn (Others.refl _ _)
    · exact Others.refl _ _
theorem res_others {d : Dv} {z : Int} (h : (resD d z).2 ≠ 1) : Others z d (resD d z).1 := by
  unfold resD at h ⊢
  split
  · rename_i a; rw [if_pos a] at h; exact absurd rfl h
  · split
    · rename_i hz
      split
      · exact Others.refl _ _
      · split
        · have := set_other (burnD d).1 z.toNat noZn
          exact others_burn ⟨this.1, fun j hj => this.2 j (fun e => hj (by have := hz.1; omega))⟩
        · exact others_burn (Others.refl _ _)
    · exact Others.refl _ _
/-- Writing while nothing fails. -/
theorem burn_free {d : Dv} (h1 : d.fuel = -1) (h2 : d.off = false) : burnD d = (d, true) := by
  obtain ⟨zs, size, mo, fuel, off, bad⟩ := d
  simp only at h1 h2
  subst h1 h2
  rfl
theorem set_set (d : Dv) (i : Nat) (x y : Zn) : setZn (setZn d i x) i y = setZn d i y := by simp [setZn]
theorem write_free : ∀ (bs : List ByteArray) (i : Nat) (d : Dv) (x : Zn), d.fuel = -1 → d.off = false → bs ≠ [] →
    writeD i d x bs = (setZn d i ⟨x.b ++ bs, x.firm, decide ((x.b.length : Int) + (bs.length : Nat) = d.size)⟩, 0)
  | [], i, d, x, _, _, h => absurd rfl h
  | b :: r, i, d, x, h1, h2, _ => by
    rw [writeD, burn_free h1 h2]
    simp only [if_true]
    by_cases hr : r = []
    · subst hr; rfl
    · rw [write_free r i _ _ (by exact h1) (by exact h2) hr, set_set]
      have e : ((x.b ++ [b]).length : Int) + (r.length : Nat) = (x.b.length : Int) + ((b :: r).length : Nat) := by simp; omega
      simp only [e, List.append_assoc, List.singleton_append]
      rfl
/-- Writing with so much fuel: what is left of it. -/
theorem burn_fuel {d : Dv} (h1 : 0 ≤ d.fuel) (h2 : d.off = false) : burnD d = if d.fuel = 0 then ({ d with off := true }, false) else ({ d with fuel := d.fuel - 1 }, true) := by
  unfold burnD
  by_cases h : d.fuel = 0
  · rw [if_pos (.inr h), if_pos h]
  · rw [if_neg (by rw [h2]; simp [h]), if_neg h]
    have : 0 < d.fuel := by omega
    simp only [if_pos this]
theorem write_fuel : ∀ (bs : List ByteArray) (i : Nat) (d : Dv) (x : Zn), 0 ≤ d.fuel → d.off = false →
    if (bs.length : Int) ≤ d.fuel then (writeD i d x bs).2 = 0 ∧ (writeD i d x bs).1.fuel = d.fuel - (bs.length : Nat) ∧ (writeD i d x bs).1.off = false
    else (writeD i d x bs).2 = 10 ∧ (writeD i d x bs).1.fuel = 0 ∧ (writeD i d x bs).1.off = true
  | [], i, d, x, h1, h2 => by rw [if_pos (by simpa using h1)]; exact ⟨rfl, by simp [writeD], h2⟩
  | b :: r, i, d, x, h1, h2 => by
    rw [writeD, burn_fuel h1 h2]
    have hl : ((b :: r).length : Int) = (r.length : Int) + 1 := by simp
    by_cases h : d.fuel = 0
    · rw [if_neg (by omega)]
      simp only [if_pos h]
      exact ⟨rfl, h, rfl⟩
    · simp only [if_neg h, if_true]
      have ih := write_fuel r i (setZn { d with fuel := d.fuel - 1 } i ⟨x.b ++ [b], x.firm, decide ((x.b.length : Int) + 1 = d.size)⟩) ⟨x.b ++ [b], x.firm, decide ((x.b.length : Int) + 1 = d.size)⟩ (by show 0 ≤ d.fuel - 1; omega) h2
      have hf : (setZn { d with fuel := d.fuel - 1 } i ⟨x.b ++ [b], x.firm, decide ((x.b.length : Int) + 1 = d.size)⟩).fuel = d.fuel - 1 := rfl
      rw [hf] at ih
      by_cases hc : (r.length : Int) ≤ d.fuel - 1
      · rw [if_pos hc] at ih
        rw [if_pos (by omega)]
        exact ⟨ih.1, by rw [ih.2.1]; omega, ih.2.2⟩
      · rw [if_neg hc] at ih
        rw [if_neg (by omega)]
        exact ih
/-- So many blocks of one octet. -/
def octsB (c n : Nat) : ByteArray := mk (List.replicate (64 * n) c.toUInt8)
theorem octsB_size (c n : Nat) : (octsB c n).size = 64 * n := by rw [octsB, mk_size, List.length_replicate]
/-- Something that is done. -/
structure Ac where
  kind : Nat
  zone : Nat
  many : Nat
  c : Nat
def actD (d : Dv) (a : Ac) : Dv × Nat :=
  if a.kind % 5 < 2 then appD d ((a.zone % 5 : Nat) : Int) (octsB a.c (1 + a.many % 4))
  else if a.kind % 5 = 2 then finD d ((a.zone % 5 : Nat) : Int)
  else if a.kind % 5 = 3 then resD d ((a.zone % 5 : Nat) : Int)
  else fluD d
theorem act_others {d : Dv} {a : Ac} (h : (actD d a).2 ≠ 1) (hk : a.kind % 5 ≠ 4) : Others ((a.zone % 5 : Nat) : Int) d (actD d a).1 := by
  unfold actD at h ⊢
  split
  · rename_i k; rw [if_pos k] at h; exact app_others h
  · rename_i k1; rw [if_neg k1] at h
    split
    · rename_i k; rw [if_pos k] at h; exact fin_others h
    · rename_i k2; rw [if_neg k2] at h
      split
      · rename_i k; rw [if_pos k] at h; exact res_others h
      · omega
theorem firm_may {d : Dv} (h : mayD d = true) : mayD { d with zs := d.zs.map firmZ } = true := by
  obtain ⟨h1, h2, h3, h4, h5, h6, h7, h8, h9⟩ := mayD_iff.1 h
  refine mayD_iff.2 ⟨by simpa using h1, by simpa using h2, h3, h4, h5, h6, h7, fun z hz => ?_, ?_⟩
  · obtain ⟨y, hy, rfl⟩ := List.mem_map.1 hz
    obtain ⟨g1, g2, g3, g4, g5, g6⟩ := okZn_iff.1 (h8 y hy)
    exact okZn_iff.2 ⟨g1, by show (0 : Int) ≤ (y.b.length : Nat); omega, Int.le_refl _, g4, g5, g6⟩
  · have : openN (d.zs.map firmZ) = openN d.zs := by
      unfold openN
      rw [List.filter_map, List.length_map]
      rfl
    show ((openN (d.zs.map firmZ) : Nat) : Int) ≤ d.mo
    rw [this]; exact h9
/-- What an act comes to: it is refused, or it is done, or the power is off. -/
inductive ActC (d : Dv) (a : Ac) : Dv × Nat → Prop
  | no (e : Nat) (h : e = 12 ∨ e = 8) : ActC d a (refD d, e)
  | yes (x : Dv) (e : Nat) (h : e = 0 ∨ e = 10) (may : mayD x = true) (len : x.zs.length = d.zs.length) (mo : x.mo = d.mo) (sz : x.size = d.size) (bad : x.bad = d.bad) : ActC d a (x, e)
theorem act_c {d : Dv} (h : mayD d = true) (a : Ac) : ActC d a (actD d a) := by
  obtain ⟨h1, h2, h3, h4, h5, h6, h7, h8, h9⟩ := mayD_iff.1 h
  have hn : ¬ mayD d = false := by rw [h]; decide
  unfold actD
  split
  · unfold appD
    have hs := octsB_size a.c (1 + a.many % 4)
    rw [if_neg (by rw [hs]; intro e; rcases e with e | e | e; exact hn e; omega; omega)]
    split
    · rename_i hz
      split
      · exact .no _ (.inr rfl)
      · rename_i hc
        have hi : (((a.zone % 5 : Nat) : Int)).toNat < d.zs.length := by have := hz.2; omega
        have hd : (octsB a.c (1 + a.many % 4)).size / 64 = 1 + a.many % 4 := by rw [hs]; omega
        rw [hd] at hc ⊢
        have hc1 : ¬ (atZn d (((a.zone % 5 : Nat) : Int)).toNat).full = true := fun e => hc (.inl e)
        have hc2 : ¬ d.size < ((atZn d (((a.zone % 5 : Nat) : Int)).toNat).b.length : Int) + ((1 + a.many % 4 : Nat) : Int) := fun e => hc (.inr (.inl e))
        have hc3 : ¬ ((atZn d (((a.zone % 5 : Nat) : Int)).toNat).b.length = 0 ∧ d.mo ≤ openN d.zs) := fun e => hc (.inr (.inr e))
        have hw := write_may (blocksOf (octsB a.c (1 + a.many % 4)) (1 + a.many % 4)) _ d (atZn d (((a.zone % 5 : Nat) : Int)).toNat) h hi (atZn_is hi).symm (blocksOf_size hs) (by rw [blocksOf_len]; omega) (fun _ => by simpa using hc1) (fun _ e => by
          by_cases q : d.mo ≤ openN d.zs
          · exact absurd ⟨e, q⟩ hc3
          · omega)
        have hr : (writeD (((a.zone % 5 : Nat) : Int)).toNat d (atZn d (((a.zone % 5 : Nat) : Int)).toNat) (blocksOf (octsB a.c (1 + a.many % 4)) (1 + a.many % 4))).2 = 0 ∨ (writeD (((a.zone % 5 : Nat) : Int)).toNat d (atZn d (((a.zone % 5 : Nat) : Int)).toNat) (blocksOf (octsB a.c (1 + a.many % 4)) (1 + a.many % 4))).2 = 10 := by
          have : ∀ (bs : List ByteArray) (i : Nat) (d : Dv) (x : Zn), (writeD i d x bs).2 = 0 ∨ (writeD i d x bs).2 = 10 := by
            intro bs
            induction bs with
            | nil => intro i d x; exact .inl rfl
            | cons b r ih =>
              intro i d x
              rw [writeD]
              split
              · exact ih _ _ _
              · exact .inr rfl
          exact this _ _ _ _
        exact .yes _ _ hr hw.1 hw.2.1 hw.2.2.1 hw.2.2.2.1 hw.2.2.2.2
    · exact .no _ (.inl rfl)
  · split
    · unfold finD
      rw [if_neg hn]
      split
      · rename_i hz
        split
        · exact .no _ (.inr rfl)
        · rename_i hc
          have hi : (((a.zone % 5 : Nat) : Int)).toNat < d.zs.length := by have := hz.2; omega
          have hk := okZn_iff.1 (h8 _ (List.getElem_mem hi))
          split
          · refine .yes _ _ (.inl rfl) (set_may (burn_may h) (by rw [burn_zs]; exact hi) ?_ (fun e => by simp [isOpen] at e)) (by simp [setZn, burn_zs]) (burn_mo d) (burn_sz d) (burn_bad d)
            rw [atZn_is hi, burn_sz]
            rw [atZn_is hi] at hc
            exact okZn_iff.2 ⟨hk.1, hk.2.1, hk.2.2.1, hk.2.2.2.1, fun _ => rfl, fun e => absurd (.inr e) hc⟩
          · exact .yes _ _ (.inr rfl) (burn_may h) (by rw [burn_zs]) (burn_mo d) (burn_sz d) (burn_bad d)
      · exact .no _ (.inl rfl)
    · split
      · unfold resD
        rw [if_neg hn]
        split
        · rename_i hz
          split
          · exact .no _ (.inr rfl)
          · have hi : (((a.zone % 5 : Nat) : Int)).toNat < d.zs.length := by have := hz.2; omega
            split
            · refine .yes _ _ (.inl rfl) (set_may (burn_may h) (by rw [burn_zs]; exact hi) ?_ (fun e => by simp [isOpen, noZn] at e)) (by simp [setZn, burn_zs]) (burn_mo d) (burn_sz d) (burn_bad d)
              rw [burn_sz]
              exact okZn_iff.2 ⟨by show ((0 : Nat) : Int) ≤ d.size; omega, Int.le_refl _, Int.le_refl _, by simp [noZn], fun e => by simp [noZn] at e; omega, fun _ => rfl⟩
            · exact .yes _ _ (.inr rfl) (burn_may h) (by rw [burn_zs]) (burn_mo d) (burn_sz d) (burn_bad d)
        · exact .no _ (.inl rfl)
      · unfold fluD
        rw [if_neg hn]
        split
        · have := firm_may (burn_may h)
          rw [burn_zs] at this
          exact .yes _ _ (.inl rfl) this (by simp) (burn_mo d) (burn_sz d) (burn_bad d)
        · exact .yes _ _ (.inr rfl) (burn_may h) (by rw [burn_zs]) (burn_mo d) (burn_sz d) (burn_bad d)
end Go.Proofs.Yteoondmakdghhaa

namespace Go.Proofs.Yteoondmakdghhaa
set_option maxRecDepth 100000
open Go.ChangeShapes Go.WideShapes Go.ChangeAt Go.RowKit
set_option linter.unusedVariables false
set_option linter.unusedSimpArgs false
theorem blocks_some {c n : Nat} (h : 0 < n) : blocksOf (octsB c n) n ≠ [] := fun e => by
  have := blocksOf_len (octsB c n) n
  rw [e] at this; simp at this; omega
theorem octs_div (c m : Nat) : (octsB c (1 + m % 4)).size / 64 = 1 + m % 4 := by rw [octsB_size]; omega
/-- Without a failure: no error of power, and fuel and power stay. -/
theorem act_free {d : Dv} (h1 : d.fuel = -1) (h2 : d.off = false) (hm : mayD d = true) (a : Ac) : (actD d a).2 ≠ 10 ∧ (actD d a).1.fuel = -1 ∧ (actD d a).1.off = false := by
  have hn : ¬ mayD d = false := by rw [hm]; decide
  unfold actD
  split
  · unfold appD
    have hs := octsB_size a.c (1 + a.many % 4)
    rw [if_neg (by rw [hs]; intro e; rcases e with e | e | e; exact hn e; omega; omega)]
    split
    · split
      · exact ⟨by simp, h1, h2⟩
      · rw [octs_div, write_free _ _ _ _ h1 h2 (blocks_some (by omega))]
        exact ⟨by simp, h1, h2⟩
    · exact ⟨by simp, h1, h2⟩
  · split
    · unfold finD
      rw [if_neg hn]
      split
      · split
        · exact ⟨by simp, h1, h2⟩
        · rw [burn_free h1 h2]; exact ⟨by simp, h1, h2⟩
      · exact ⟨by simp, h1, h2⟩
    · split
      · unfold resD
        rw [if_neg hn]
        split
        · split
          · exact ⟨by simp, h1, h2⟩
          · rw [burn_free h1 h2]; exact ⟨by simp, h1, h2⟩
        · exact ⟨by simp, h1, h2⟩
      · unfold fluD
        rw [if_neg hn, burn_free h1 h2]
        exact ⟨by simp, h1, h2⟩
/-- All zones' blocks are still there, and as firm. -/
def Grow (d x : Dv) : Prop := x.zs.length = d.zs.length ∧ ∀ i (h : i < d.zs.length) (k : i < x.zs.length), (∃ r, x.zs[i].b = d.zs[i].b ++ r) ∧ x.zs[i].firm = d.zs[i].firm
theorem Grow.refl (d : Dv) : Grow d d := ⟨rfl, fun i h k => ⟨⟨[], by simp⟩, rfl⟩⟩
theorem Grow.trans {a b c : Dv} (h : Grow a b) (k : Grow b c) : Grow a c := by
  refine ⟨k.1.trans h.1, fun i hi hk => ?_⟩
  obtain ⟨⟨r, e1⟩, e2⟩ := h.2 i hi (by rw [h.1]; exact hi)
  obtain ⟨⟨s, f1⟩, f2⟩ := k.2 i (by rw [h.1]; exact hi) hk
  exact ⟨⟨r ++ s, by rw [f1, e1, List.append_assoc]⟩, f2.trans e2⟩
theorem grow_set {d : Dv} {i : Nat} (h : i < d.zs.length) {x : Zn} (hb : ∃ r, x.b = d.zs[i].b ++ r) (hf : x.firm = d.zs[i].firm) : Grow d (setZn d i x) := by
  refine ⟨by simp [setZn], fun j hj hk => ?_⟩
  have e : (setZn d i x).zs = d.zs.set i x := rfl
  by_cases q : i = j
  · subst q
    have : (setZn d i x).zs[i] = x := by simp [setZn]
    rw [this]; exact ⟨hb, hf⟩
  · have : (setZn d i x).zs[j] = d.zs[j] := by simp [setZn, q]
    rw [this]; exact ⟨⟨[], by simp⟩, rfl⟩
theorem act_grow {d : Dv} (h1 : d.fuel = -1) (h2 : d.off = false) (hm : mayD d = true) {a : Ac} (k3 : a.kind % 5 ≠ 3) (k4 : a.kind % 5 ≠ 4) : Grow d (actD d a).1 := by
  have hn : ¬ mayD d = false := by rw [hm]; decide
  have hr : Grow d (refD d) := ⟨rfl, fun i h k => ⟨⟨[], by simp [refD]⟩, rfl⟩⟩
  unfold actD
  split
  · unfold appD
    have hs := octsB_size a.c (1 + a.many % 4)
    rw [if_neg (by rw [hs]; intro e; rcases e with e | e | e; exact hn e; omega; omega)]
    split
    · rename_i hz
      have hi : (((a.zone % 5 : Nat) : Int)).toNat < d.zs.length := by have := hz.2; omega
      split
      · exact hr
      · rw [octs_div, write_free _ _ _ _ h1 h2 (blocks_some (by omega)), atZn_is hi]
        exact grow_set hi ⟨_, rfl⟩ rfl
    · exact hr
  · split
    · unfold finD
      rw [if_neg hn]
      split
      · rename_i hz
        have hi : (((a.zone % 5 : Nat) : Int)).toNat < d.zs.length := by have := hz.2; omega
        split
        · exact hr
        · rw [burn_free h1 h2, atZn_is hi]
          exact grow_set hi ⟨[], by simp⟩ rfl
      · exact hr
    · exfalso; omega
/-- With fuel: what an act needs, and what is left. -/
def needA (a : Ac) : Nat := if a.kind % 5 < 2 then 1 + a.many % 4 else 1
theorem burn_one {d : Dv} (h1 : 0 ≤ d.fuel) (h2 : d.off = false) : if 1 ≤ d.fuel then (burnD d).2 = true ∧ (burnD d).1.fuel = d.fuel - 1 ∧ (burnD d).1.off = false else (burnD d).2 = false ∧ (burnD d).1.fuel = 0 ∧ (burnD d).1.off = true := by
  rw [burn_fuel h1 h2]
  by_cases h : d.fuel = 0
  · rw [if_neg (by omega), if_pos h]; exact ⟨rfl, h, rfl⟩
  · rw [if_pos (by omega), if_neg h]; exact ⟨rfl, rfl, h2⟩
theorem act_fuel {d : Dv} (h1 : 0 ≤ d.fuel) (h2 : d.off = false) (hm : mayD d = true) (a : Ac) :
    ((actD d a).2 = 12 ∨ (actD d a).2 = 8) ∧ (actD d a).1 = refD d ∨
    ((needA a : Int) ≤ d.fuel ∧ (actD d a).2 = 0 ∧ (actD d a).1.fuel = d.fuel - (needA a : Nat) ∧ (actD d a).1.off = false) ∨
    (d.fuel < (needA a : Int) ∧ (actD d a).2 = 10 ∧ (actD d a).1.fuel = 0 ∧ (actD d a).1.off = true) := by
  have hn : ¬ mayD d = false := by rw [hm]; decide
  have hb := burn_one h1 h2
  by_cases q1 : a.kind % 5 < 2
  · have e1 : actD d a = appD d ((a.zone % 5 : Nat) : Int) (octsB a.c (1 + a.many % 4)) := by unfold actD; rw [if_pos q1]
    have e2 : needA a = 1 + a.many % 4 := by unfold needA; rw [if_pos q1]
    rw [e1, e2]
    unfold appD
    have hs := octsB_size a.c (1 + a.many % 4)
    rw [if_neg (by rw [hs]; intro e; rcases e with e | e | e; exact hn e; omega; omega)]
    by_cases hz : hasZ d ((a.zone % 5 : Nat) : Int)
    · rw [if_pos hz]
      split
      · exact .inl ⟨.inr rfl, rfl⟩
      · rw [octs_div]
        have hw := write_fuel (blocksOf (octsB a.c (1 + a.many % 4)) (1 + a.many % 4)) (((a.zone % 5 : Nat) : Int)).toNat d (atZn d (((a.zone % 5 : Nat) : Int)).toNat) h1 h2
        rw [blocksOf_len] at hw
        by_cases hc : ((1 + a.many % 4 : Nat) : Int) ≤ d.fuel
        · rw [if_pos hc] at hw; exact .inr (.inl ⟨hc, hw⟩)
        · rw [if_neg hc] at hw; exact .inr (.inr ⟨by omega, hw⟩)
    · rw [if_neg hz]; exact .inl ⟨.inl rfl, rfl⟩
  · have e2 : needA a = 1 := by unfold needA; rw [if_neg q1]
    rw [e2]
    have fin : ∀ x : Dv, x.fuel = (burnD d).1.fuel → x.off = (burnD d).1.off →
        (((if (burnD d).2 = true then (x, 0) else ((burnD d).1, 10) : Dv × Nat).2 = 12 ∨ (if (burnD d).2 = true then (x, 0) else ((burnD d).1, 10) : Dv × Nat).2 = 8) ∧ (if (burnD d).2 = true then (x, 0) else ((burnD d).1, 10) : Dv × Nat).1 = refD d ∨
        (((1 : Nat) : Int) ≤ d.fuel ∧ (if (burnD d).2 = true then (x, 0) else ((burnD d).1, 10) : Dv × Nat).2 = 0 ∧ (if (burnD d).2 = true then (x, 0) else ((burnD d).1, 10) : Dv × Nat).1.fuel = d.fuel - ((1 : Nat) : Int) ∧ (if (burnD d).2 = true then (x, 0) else ((burnD d).1, 10) : Dv × Nat).1.off = false) ∨
        (d.fuel < ((1 : Nat) : Int) ∧ (if (burnD d).2 = true then (x, 0) else ((burnD d).1, 10) : Dv × Nat).2 = 10 ∧ (if (burnD d).2 = true then (x, 0) else ((burnD d).1, 10) : Dv × Nat).1.fuel = 0 ∧ (if (burnD d).2 = true then (x, 0) else ((burnD d).1, 10) : Dv × Nat).1.off = true)) := by
      intro x f1 f2
      by_cases hc : 1 ≤ d.fuel
      · rw [if_pos hc] at hb
        rw [if_pos hb.1]
        exact .inr (.inl ⟨by omega, rfl, f1.trans hb.2.1, f2.trans hb.2.2⟩)
      · rw [if_neg hc] at hb
        rw [if_neg (by rw [hb.1]; decide)]
        exact .inr (.inr ⟨by omega, rfl, hb.2.1, hb.2.2⟩)
    by_cases q2 : a.kind % 5 = 2
    · have e1 : actD d a = finD d ((a.zone % 5 : Nat) : Int) := by unfold actD; rw [if_neg q1, if_pos q2]
      rw [e1]
      unfold finD
      rw [if_neg hn]
      by_cases hz : hasZ d ((a.zone % 5 : Nat) : Int)
      · rw [if_pos hz]
        by_cases hc : (atZn d (((a.zone % 5 : Nat) : Int)).toNat).full = true ∨ (atZn d (((a.zone % 5 : Nat) : Int)).toNat).b.length = 0
        · rw [if_pos hc]; exact .inl ⟨.inr rfl, rfl⟩
        · rw [if_neg hc]; exact fin _ rfl rfl
      · rw [if_neg hz]; exact .inl ⟨.inl rfl, rfl⟩
    · by_cases q3 : a.kind % 5 = 3
      · have e1 : actD d a = resD d ((a.zone % 5 : Nat) : Int) := by unfold actD; rw [if_neg q1, if_neg q2, if_pos q3]
        rw [e1]
        unfold resD
        rw [if_neg hn]
        by_cases hz : hasZ d ((a.zone % 5 : Nat) : Int)
        · rw [if_pos hz]
          by_cases hc : (atZn d (((a.zone % 5 : Nat) : Int)).toNat).b.length = 0
          · rw [if_pos hc]; exact .inl ⟨.inr rfl, rfl⟩
          · rw [if_neg hc]; exact fin _ rfl rfl
        · rw [if_neg hz]; exact .inl ⟨.inl rfl, rfl⟩
      · have e1 : actD d a = fluD d := by unfold actD; rw [if_neg q1, if_neg q2, if_neg q3]
        rw [e1]
        unfold fluD
        rw [if_neg hn]
        exact fin _ rfl rfl
/-- What a crash keeps. -/
theorem tearB_size (s : ByteArray) {c : Int} (h : s.size = 64) : (tearB s c).size = 64 := by
  rw [tearB, mk_size, List.length_append, List.length_take, bl_length, List.length_replicate, h]; omega
theorem keptN_le (l : Ls) (i : Nat) (z : Zn) : keptN l i z ≤ z.b.length := Nat.min_le_left _ _
theorem crashB_len (l : Ls) (i : Nat) (z : Zn) : keptN l i z ≤ (crashB l i z).length ∧ (crashB l i z).length ≤ z.b.length ∧ ((crashB l i z).length = keptN l i z ∨ ((crashB l i z).length = keptN l i z + 1 ∧ (i : Int) = l.zone ∧ 0 < l.cut)) := by
  have hk := keptN_le l i z
  unfold crashB
  rw [List.length_append, List.length_take]
  split
  · rename_i h
    rw [List.length_map, List.length_take, List.length_drop]
    by_cases q : keptN l i z = z.b.length
    · refine ⟨by omega, by omega, .inl (by omega)⟩
    · refine ⟨by omega, by omega, .inr ⟨by omega, h⟩⟩
  · simp only [List.length_nil]
    refine ⟨by omega, by omega, .inl (by omega)⟩
theorem crashB_get {l : Ls} {i : Nat} {z : Zn} {k : Nat} (h : k < keptN l i z) : (crashB l i z)[k]? = z.b[k]? := by
  have hk := keptN_le l i z
  unfold crashB
  rw [List.getElem?_append_left (by rw [List.length_take]; omega), List.getElem?_take]
  simp [h]
theorem crashB_all {l : Ls} {i : Nat} {z : Zn} (h : ∀ s ∈ z.b, s.size = 64) : ∀ s ∈ crashB l i z, s.size = 64 := by
  intro s hs
  unfold crashB at hs
  rcases List.mem_append.1 hs with hs | hs
  · exact h s (List.mem_of_mem_take hs)
  · split at hs
    · obtain ⟨t, ht, rfl⟩ := List.mem_map.1 hs
      exact tearB_size t (h t (List.mem_of_mem_drop (List.mem_of_mem_take ht)))
    · cases hs
theorem crash_zs {d : Dv} (h : mayD d = true) (l : Ls) : (crashD d l).zs = (List.range d.zs.length).map (fun i => crashZ l i (atZn d i)) := by
  unfold crashD; rw [if_neg (by rw [h]; decide)]
theorem crash_len {d : Dv} (h : mayD d = true) (l : Ls) : (crashD d l).zs.length = d.zs.length := by rw [crash_zs h]; simp
theorem crash_at {d : Dv} (h : mayD d = true) (l : Ls) {i : Nat} (hi : i < d.zs.length) (hk : i < (crashD d l).zs.length) : (crashD d l).zs[i] = crashZ l i d.zs[i] := by
  have e : (crashD d l).zs[i]? = some (crashZ l i (atZn d i)) := by rw [crash_zs h]; simp [hi]
  rw [atZn_is hi] at e
  rw [List.getElem?_eq_getElem hk] at e
  injection e
theorem crash_open {d : Dv} (h : mayD d = true) (l : Ls) : openN (crashD d l).zs = 0 := by
  unfold openN
  rw [List.length_eq_zero_iff, List.filter_eq_nil_iff, crash_zs h]
  intro z hz
  obtain ⟨i, -, rfl⟩ := List.mem_map.1 hz
  unfold isOpen crashZ
  by_cases q : 0 < (crashB l i (atZn d i)).length <;> simp [q]
theorem crash_off {d : Dv} (h : mayD d = true) (l : Ls) : (crashD d l).off = false ∧ (crashD d l).fuel = -1 ∧ (crashD d l).size = d.size ∧ (crashD d l).mo = d.mo ∧ (crashD d l).bad = d.bad := by
  unfold crashD; rw [if_neg (by rw [h]; decide)]; exact ⟨rfl, rfl, rfl, rfl, rfl⟩
theorem crash_may {d : Dv} (h : mayD d = true) (l : Ls) : mayD (crashD d l) = true := by
  obtain ⟨h1, h2, h3, h4, h5, h6, h7, h8, h9⟩ := mayD_iff.1 h
  obtain ⟨g1, g2, g3, g4, g5⟩ := crash_off h l
  have hl := crash_len h l
  refine mayD_iff.2 ⟨by omega, by omega, by omega, by omega, by omega, by omega, by omega, fun z hz => ?_, by rw [crash_open h l, g4]; omega⟩
  rw [crash_zs h] at hz
  obtain ⟨i, hi, rfl⟩ := List.mem_map.1 hz
  have hi := List.mem_range.1 hi
  rw [atZn_is hi, g3]
  obtain ⟨k1, k2, k3, k4, k5, k6⟩ := okZn_iff.1 (h8 _ (List.getElem_mem hi))
  obtain ⟨c1, c2, -⟩ := crashB_len l i d.zs[i]
  refine okZn_iff.2 ⟨?_, ?_, ?_, crashB_all k4, fun e => ?_, fun e => ?_⟩
  · show ((crashB l i d.zs[i]).length : Int) ≤ _; omega
  · show (0 : Int) ≤ ((crashB l i d.zs[i]).length : Nat); omega
  · exact Int.le_refl _
  · have e : ((crashB l i d.zs[i]).length : Int) = d.size := e
    show decide _ = true; simp; omega
  · have e : (crashB l i d.zs[i]).length = 0 := e
    show decide _ = false; simp [e]
/-- What is firm stays; of what came since a beginning, but for one block that may be torn. -/
theorem crash_hold {d x : Dv} (hg : Grow d x) (hm : mayD x = true) (hf : ∀ i (h : i < d.zs.length), d.zs[i].firm = (d.zs[i].b.length : Nat)) (l : Ls) {i : Nat} (hi : i < d.zs.length) (hx : i < x.zs.length) :
    d.zs[i].b.length ≤ (crashB l i x.zs[i]).length ∧ (crashB l i x.zs[i]).length ≤ x.zs[i].b.length ∧ ∀ k, k < (crashB l i x.zs[i]).length → (crashB l i x.zs[i])[k]? = x.zs[i].b[k]? ∨ ((i : Int) = l.zone ∧ k + 1 = (crashB l i x.zs[i]).length ∧ d.zs[i].b.length ≤ k) := by
  obtain ⟨⟨r, e1⟩, e2⟩ := hg.2 i hi hx
  have e3 := hf i hi
  have hlen : d.zs[i].b.length ≤ x.zs[i].b.length := by rw [e1, List.length_append]; omega
  have hkept : d.zs[i].b.length ≤ keptN l i x.zs[i] := by unfold keptN; rw [e2, e3]; omega
  obtain ⟨c1, c2, c3⟩ := crashB_len l i x.zs[i]
  refine ⟨by omega, c2, fun k hk => ?_⟩
  by_cases q : k < keptN l i x.zs[i]
  · exact .inl (crashB_get q)
  · rcases c3 with c3 | ⟨c3, c4, -⟩
    · omega
    · exact .inr ⟨c4, by omega, by omega⟩
theorem blocks_rep (c : Nat) : ∀ n m, m ≤ n → blocksOf (octsB c n) m = List.replicate m (octsB c 1) := by
  intro n m h
  induction m with
  | zero => rfl
  | succ m ih =>
    rw [blocksOf_succ, ih (by omega), List.replicate_succ']
    congr 2
    apply bl_inj
    rw [octsB, octsB, bl_extract, bl_mk, bl_mk, List.drop_replicate, List.take_replicate]
    congr 1
    omega
/-- One zone of blocks of one octet, and a crash of it. -/
theorem torn_b {c n k : Nat} {cut : Int} (hk : k ≤ n) :
    crashB ⟨[0, (k : Int)], 1, cut⟩ 1 ⟨List.replicate n (octsB c 1), 0, false⟩ = List.replicate k (octsB c 1) ++ (if 0 < cut ∧ k < n then [tearB (octsB c 1) cut] else []) := by
  have hkn : keptN ⟨[0, (k : Int)], 1, cut⟩ 1 ⟨List.replicate n (octsB c 1), 0, false⟩ = k := by unfold keptN; simp; omega
  unfold crashB
  rw [hkn]
  simp only [List.take_replicate, List.drop_replicate, Nat.min_eq_left hk]
  congr 1
  by_cases h1 : 0 < cut
  · by_cases h2 : k < n
    · rw [if_pos ⟨rfl, h1⟩, if_pos ⟨h1, h2⟩, Nat.min_eq_left (by omega)]; rfl
    · rw [if_pos ⟨rfl, h1⟩, if_neg (fun e => h2 e.2), show n - k = 0 by omega]; rfl
  · rw [if_neg (fun e => h1 e.2), if_neg (fun e => h1 e.1)]
theorem tear_octs (c : Nat) {cut : Int} (h : 0 < cut) : tearB (octsB c 1) cut = (octsB c 1).extract 0 (min cut.toNat 64) ++ (octsB 0 1).extract (min cut.toNat 64) 64 := by
  apply bl_inj
  rw [tearB, bl_mk, bl_append, bl_extract, bl_extract, octsB, octsB, bl_mk, bl_mk, List.drop_replicate, List.take_replicate, List.drop_replicate, List.take_replicate, List.take_replicate]
  congr 1
  · congr 1; omega
  · congr 1; omega
end Go.Proofs.Yteoondmakdghhaa

namespace Go.Proofs.Yteoondmakdghhaa
set_option maxRecDepth 100000
open Go.ChangeShapes Go.WideShapes Go.ChangeAt Go.RowKit
set_option linter.unusedVariables false
theorem info_str : (Try.prog.info? 9).map (fun i => (i.zero, i.size, i.bytes)) = some (some (.string ⟨#[]⟩), 1, 16) := by kernel_rfl
end Go.Proofs.Yteoondmakdghhaa

namespace Go.Proofs.Yteoondmakdghhaa
set_option maxRecDepth 100000
open Go.ChangeShapes Go.WideShapes Go.ChangeAt Go.RowKit
set_option linter.unusedVariables false
set_option linter.unusedSimpArgs false
/-- Block B holds these cells. -/
def Bx (W : World) (B : Nat) (t : TypeId) (cs : Array Value) : Prop := W.heap[B]? = some (.cells cs t (0, 0))
theorem Bx.lt {W : World} {B : Nat} {t : TypeId} {cs : Array Value} (h : Bx W B t cs) : B < W.heap.size := (Array.getElem?_eq_some_iff.1 h).1
theorem Bx.cell {W : World} {B : Nat} {t : TypeId} {cs : Array Value} (h : Bx W B t cs) (i : Nat) : W.cell? ⟨B, i, none⟩ = cs[i]? := by simp [World.cell?, show W.heap[B]? = _ from h]
theorem Bx.frozen {W : World} {B : Nat} {t : TypeId} {cs : Array Value} (h : Bx W B t cs) (i : Nat) : W.frozen? ⟨B, i, none⟩ = false := by simp [World.frozen?, show W.heap[B]? = _ from h]
theorem Bx.new (W : World) (t : TypeId) (cs : Array Value) : Bx (W.alloc (.cells cs t)) W.heap.size t cs := heap_alloc_new W _
theorem Bx.same {W W' : World} {B : Nat} {t : TypeId} {cs : Array Value} (h : Bx W B t cs) (e : W'.heap[B]? = W.heap[B]?) : Bx W' B t cs := e.trans h
theorem Bx.on {W W' : World} {B : Nat} {t : TypeId} {cs : Array Value} (h : Bx W B t cs) (q : Q W W') : Bx W' B t cs := (q.block B h.lt).trans h
theorem Bx.alloc {W : World} {B : Nat} {t : TypeId} {cs : Array Value} (h : Bx W B t cs) (o : Obj) : Bx (W.alloc o) B t cs := h.on ((Q.refl _).alloc o)
theorem Bx.set {W : World} {B : Nat} {t : TypeId} {cs : Array Value} (h : Bx W B t cs) (i : Nat) (u : Value) : Bx (W.setCell ⟨B, i, none⟩ u) B t (cs.setIfInBounds i u) := by
  obtain ⟨hlt, hk⟩ := Array.getElem?_eq_some_iff.1 h
  show (W.heap.modify B _)[B]? = _
  rw [Array.getElem?_eq_getElem (by rw [Array.size_modify]; exact hlt), Array.getElem_modify_self, hk]
  rfl
theorem heap_set (W : World) (B i : Nat) (u : Value) {k : Nat} (h : k ≠ B) : (W.setCell ⟨B, i, none⟩ u).heap[k]? = W.heap[k]? := Below.heap_setCell _ _ _ k (by simpa using h)
theorem Bx.other {W : World} {B B2 : Nat} {t : TypeId} {cs : Array Value} (h : Bx W B t cs) (k : B ≠ B2) (i : Nat) (u : Value) : Bx (W.setCell ⟨B2, i, none⟩ u) B t cs := (heap_set W B2 i u k).trans h
theorem grown_set (W : World) (b i : Nat) (v : Value) : W.grownBy (W.setCell ⟨b, i, none⟩ v) (some b) :=
  ⟨rfl, rfl, rfl, by simp, fun k _ hk => heap_set W b i v (fun e => hk (by rw [e]))⟩
/-- A row of the call's own stays where a block below base is written. -/
theorem ownsRow_set {w : World} {base size n : Nat} {e : TypeId} {v : Value} {xs : List Value} (h : w.ownsRow base e size v n xs) {b i : Nat} {u : Value} (hb : b < base) : (w.setCell ⟨b, i, none⟩ u).ownsRow base e size v n xs := by
  refine World.ownsRow.kept h (grown_set w b i u) ?_
  cases e : v.ownBlock with
  | none => exact .inl rfl
  | some k => refine .inr fun e2 => ?_; injection e2 with e2; have := (World.ownsRow.lt h k e).1; omega
/-- Nothing that was there has changed, but block p. -/
def Kp (p : Nat) (w w' : World) : Prop := w.grownBy w' (some p)
theorem Kp.of {p : Nat} {w w' : World} (q : Q w w') : Kp p w w' := ⟨q.os, q.tape, q.output, q.size, fun k hk _ => q.block k hk⟩
theorem Kp.trans {p : Nat} {a b c : World} (h : Kp p a b) (k : Kp p b c) : Kp p a c :=
  ⟨k.os.trans h.os, k.tape.trans h.tape, k.output.trans h.output, Nat.le_trans h.size k.size, fun i hi hn => (k.block i (Nat.lt_of_lt_of_le hi h.size) hn).trans (h.block i hi hn)⟩
theorem Kp.set {p : Nat} {a b : World} (h : Kp p a b) (i : Nat) (u : Value) : Kp p a (b.setCell ⟨p, i, none⟩ u) := h.trans (grown_set b p i u)
theorem Kp.q {p : Nat} {w0 w w' : World} (q : Q w0 w) (h : Kp p w w') (hp : w0.heap.size ≤ p) : Q w0 w' :=
  Below.grown q h q.size (fun k e => by injection e with e; omega)
end Go.Proofs.Yteoondmakdghhaa

namespace Go.Proofs.Yteoondmakdghhaa
set_option maxRecDepth 100000
open Go.ChangeShapes Go.WideShapes Go.ChangeAt Go.RowKit
set_option linter.unusedVariables false
/-- A version. -/
structure Ver where
  id : Nat
  data : ByteArray
  mark : Bool
  tm : Int
/-- A version as a value, and as it lies in memory. -/
def ver (v : Ver) : Value := .agg #[.int .u64 (v.id : Nat), .string v.data, .bool v.mark, .int .i64 v.tm]
def vcells (v : Ver) : List Value := [.int .u64 (v.id : Nat), .string v.data, .bool v.mark, .int .i64 v.tm]
/-- May it be? -/
def mayV (v : Ver) : Bool := decide (v.id ≤ 281474976710655) && decide (v.data.size ≤ 2000) && (!v.mark || decide (v.data.size = 0)) && decide (0 ≤ v.tm) && decide (v.tm ≤ 1099511627775)
end Go.Proofs.Yteoondmakdghhaa

namespace Go.Proofs.Yteoondmakdghhaa
set_option maxRecDepth 100000
open Go.ChangeShapes Go.WideShapes Go.ChangeAt Go.RowKit
set_option linter.unusedVariables false
set_option linter.unusedSimpArgs false
/-- A version lies at p. -/
def At (w : World) (p : Addr) (v : Ver) : Prop :=
  w.cell? p = some (.int .u64 (v.id : Nat)) ∧ w.cell? ⟨p.block, p.off + 1, none⟩ = some (.string v.data) ∧ w.cell? ⟨p.block, p.off + 2, none⟩ = some (.bool v.mark) ∧ w.cell? ⟨p.block, p.off + 3, none⟩ = some (.int .i64 v.tm)
/-- What every version in memory is. -/
def okV (v : Ver) : Prop := v.id < 18446744073709551616 ∧ v.data.size ≤ maxLen ∧ -9223372036854775808 ≤ v.tm ∧ v.tm ≤ 9223372036854775807
/-- A slice whose elements are these versions; all of it lies below block B. -/
def Vers (w : World) (B : Nat) (v : Value) (l : List Ver) : Prop :=
  ∃ A c, v = .slice A l.length c ∧ l.length ≤ c ∧ (A = none → c = 0) ∧ (∀ x ∈ l, okV x) ∧ ∀ k (h : k < l.length), ∃ a : Addr, A = some a ∧ a.block < B ∧ At w (a.add (k * 4)) l[k]
theorem add_pos (p : Addr) {k : Nat} (h : 0 < k) : p.add k = ⟨p.block, p.off + k, none⟩ := by
  unfold Addr.add; rw [if_neg (by omega)]
theorem At.keep {w w' : World} {p : Addr} {v : Ver} (h : At w p v) {B : Nat} (hp : p.block < B) (k : ∀ p : Addr, p.block < B → w'.cell? p = w.cell? p) : At w' p v :=
  ⟨(k p hp).trans h.1, (k ⟨p.block, p.off + 1, none⟩ hp).trans h.2.1, (k ⟨p.block, p.off + 2, none⟩ hp).trans h.2.2.1, (k ⟨p.block, p.off + 3, none⟩ hp).trans h.2.2.2⟩
theorem Vers.keep {w w' : World} {B : Nat} {v : Value} {l : List Ver} (h : Vers w B v l) (k : ∀ p : Addr, p.block < B → w'.cell? p = w.cell? p) : Vers w' B v l := by
  obtain ⟨A, c, e, e0, ez, eo, f⟩ := h
  refine ⟨A, c, e, e0, ez, eo, fun i hi => ?_⟩
  obtain ⟨a, e1, e2, e3⟩ := f i hi
  exact ⟨a, e1, e2, e3.keep (by rw [add_block]; exact e2) k⟩
theorem Vers.below {w w' : World} {B : Nat} {v : Value} {l : List Ver} (h : Vers w B v l) (k : Below B w w') : Vers w' B v l := h.keep fun _ hp => k.cell hp
theorem Vers.more {w : World} {B B' : Nat} {v : Value} {l : List Ver} (h : Vers w B v l) (k : B ≤ B') : Vers w B' v l := by
  obtain ⟨A, c, e, e0, ez, eo, f⟩ := h
  refine ⟨A, c, e, e0, ez, eo, fun i hi => ?_⟩
  obtain ⟨a, e1, e2, e3⟩ := f i hi
  exact ⟨a, e1, by omega, e3⟩
theorem Vers.on {w w' : World} {v : Value} {l : List Ver} (h : Vers w w.heap.size v l) (k : Q w w') : Vers w' w'.heap.size v l := (h.below k).more k.size
theorem Vers.nil (w : World) (B : Nat) : Vers w B (.slice none 0 0) [] := ⟨none, 0, rfl, Nat.le_refl _, fun _ => rfl, by simp, fun k h => absurd h (by simp)⟩
theorem list_of {α : Type} {P : Nat → α → Prop} (n : Nat) (h : ∀ i, i < n → ∃ x, P i x) : ∃ l : List α, l.length = n ∧ ∀ i (hi : i < l.length), P i l[i] := by
  induction n with
  | zero => exact ⟨[], rfl, fun i hi => absurd hi (by simp)⟩
  | succ n ih =>
    obtain ⟨l, hl, hp⟩ := ih fun i hi => h i (by omega)
    obtain ⟨x, hx⟩ := h n (by omega)
    refine ⟨l ++ [x], by simp [hl], fun i hi => ?_⟩
    by_cases hin : i < l.length
    · rw [List.getElem_append_left hin]; exact hp i hin
    · have : i = n := by simp at hi; omega
      subst this
      rw [List.getElem_append_right (by omega)]
      simpa [hl] using hx
theorem own : ownKnob Try.prog.godebug = none := by kernel_rfl
theorem laid : laidOutB Try.prog = true := by kernel_rfl
theorem wf64 {a : Int} (h : (Lit.int .i64 a).wf = true) : -9223372036854775808 ≤ a ∧ a ≤ 9223372036854775807 := by
  simpa [Lit.wf, IntKind.min, IntKind.max, IntKind.signed, IntKind.bits] using h
end Go.Proofs.Yteoondmakdghhaa

