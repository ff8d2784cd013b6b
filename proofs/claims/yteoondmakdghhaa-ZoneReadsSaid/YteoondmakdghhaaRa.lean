/-
  Small words shared by the proofs of this seat: worlds that only grow, texts as lists of octets, slices of texts. Plain facts on devices: what may be, what each command comes to, what a crash keeps. Plain facts on devices: other zones, writing with fuel and without, acts one behind the other, what a crash leaves. Plain facts on devices, for the laws: acts that never fail, what grows, with fuel, what a crash keeps of it. A row of texts behind a row of texts. Boxes as whole blocks; what leaves all but one block as it is. Versions: as values, as cells, as slices; what may be. Slices of versions: as they lie in memory, made by a call, and opened as arguments. Zones: as values, as cells, as slices that are read, as rows that a call makes; devices that come in. Contracts of the document's Same of texts, and its Open, May and Same of devices.
-/
import Derived.Test.YteoondmakdghhaaRows
import Derived.WalkKit
import Derived.ProofKit
import Derived.WalkSpells
import Derived.Below
import Derived.Lib.Hide
import Derived.Deep.QuietTactic
import Derived.BigQuiet
import Derived.RegionTactic
import Derived.WalkSmall
import Derived.OwnWalk
import Derived.OneCell
import Derived.Laws.OwnMore
import Derived.Laws.EntriesVeiled
import Derived.Laws.IdiomStrings
import Derived.Lib.AppendStr
import Derived.Lib.UnsafeStr
import Derived.Deep.AppendLies
import Derived.Maps.OwnIn
import Derived.OpenShut
import Derived.ShutString
import Derived.ChangeOld
import Derived.ChangeSlices
import Derived.Lib.SmallJoins
import Derived.Deep.Slices
import Derived.Carry
namespace Go.Proofs.Yteoondmakdghhaa
set_option maxRecDepth 100000
open Go.ChangeShapes Go.WideShapes Go.ChangeAt Go.RowKit
/-- What the walk puts in order behind each operation that is taken. -/
theorem PS {α : Type} : (∀ (l : List α) (i : Nat) (h : i < l.toArray.size), l.toArray[i]'h = l[i]'(by simpa using h)) ∧ (∀ (a : α) (l : List α) (h : 0 < (a :: l).length), (a :: l)[0]'h = a) ∧ (∀ (a : α) (l : List α) (i : Nat) (h : i + 1 < (a :: l).length), (a :: l)[i + 1]'h = l[i]'(Nat.lt_of_succ_lt_succ h)) ∧ (∀ (l : List α) (i : Nat) (a : α), l.toArray.setIfInBounds i a = (l.set i a).toArray) ∧ (∀ (x y : α) (l : List α), (x :: l).set 0 y = y :: l) ∧ (∀ (x y : α) (l : List α) (i : Nat), (x :: l).set (i + 1) y = x :: l.set i y) :=
  ⟨fun _ _ _ => List.getElem_toArray _, fun _ _ _ => rfl, fun _ _ _ _ => rfl, fun _ _ _ => List.setIfInBounds_toArray .., fun _ _ _ => rfl, fun _ _ _ _ => rfl⟩
/-- Nothing that was there has changed; memory may have grown. -/
def Q (w w' : World) : Prop := Below w.heap.size w w'
theorem Q.refl (w : World) : Q w w := Below.refl _ _
theorem Q.trans {a b c : World} (h : Q a b) (k : Q b c) : Q a c := Below.trans h (Below.mono k h.size)
theorem Q.drew {a b : World} (h : Q a b) : Q a b.drew := Below.drew h
theorem Q.alloc {a b : World} (h : Q a b) (o : Obj) : Q a (b.alloc o) := Below.alloc h h.size o
theorem Q.drewN {a b : World} (h : Q a b) (n : Nat) : Q a (b.drewN n) := below_drewN h n
theorem Q.size {a b : World} (h : Q a b) : a.heap.size ≤ b.heap.size := Below.size h
/-- A text's octets, and the text of octets. -/
def bl (s : ByteArray) : List UInt8 := s.data.toList
def mk (l : List UInt8) : ByteArray := ⟨l.toArray⟩
theorem bl_mk (l : List UInt8) : bl (mk l) = l := rfl
theorem mk_bl (s : ByteArray) : mk (bl s) = s := rfl
theorem bl_length (s : ByteArray) : (bl s).length = s.size := Array.length_toList
theorem mk_size (l : List UInt8) : (mk l).size = l.length := by rw [← bl_length, bl_mk]
theorem bl_inj {a b : ByteArray} (h : bl a = bl b) : a = b := by rw [← mk_bl a, ← mk_bl b, h]
theorem bl_extract (s : ByteArray) (i j : Nat) : bl (s.extract i j) = ((bl s).drop i).take (j - i) := by
  simp [bl]
theorem toList_bl (s : ByteArray) : s.toList = bl s := ByteArray.toList_eq s
theorem size_cut (s : ByteArray) {a b : Nat} (h : b ≤ s.size) : (s.extract a b).size = b - a := by
  rw [← bl_length, bl_extract, List.length_take, List.length_drop, bl_length]; omega
theorem eq_texts (a b : ByteArray) : (a.toList == b.toList) = decide (a = b) := by
  rw [toList_bl, toList_bl]
  by_cases h : a = b
  · subst h; simp
  · have : ¬ bl a = bl b := fun e => h (bl_inj e)
    simp [h, this]
theorem nil_text (a : ByteArray) : a.toList = [] ↔ a.size = 0 := by
  rw [toList_bl, ← bl_length]; exact List.length_eq_zero_iff.symm
/-- A slice whose elements are these texts; all of it lies below block B. -/
def Txts (w : World) (B : Nat) (v : Value) (l : List ByteArray) : Prop :=
  ∃ A c, v = .slice A l.length c ∧ ∀ k (h : k < l.length), ∃ a : Addr, A = some a ∧ a.block < B ∧ w.cell? (a.add k) = some (.string l[k])
theorem add_block (a : Addr) (n : Nat) : (a.add n).block = a.block := by unfold Addr.add; split <;> rfl
theorem Txts.keep {w w' : World} {B : Nat} {v : Value} {l : List ByteArray} (h : Txts w B v l) (k : ∀ p : Addr, p.block < B → w'.cell? p = w.cell? p) : Txts w' B v l := by
  obtain ⟨A, c, e, f⟩ := h
  refine ⟨A, c, e, fun i hi => ?_⟩
  obtain ⟨a, e1, e2, e3⟩ := f i hi
  exact ⟨a, e1, e2, (k _ (by rw [add_block]; exact e2)).trans e3⟩
theorem Txts.below {w w' : World} {B : Nat} {v : Value} {l : List ByteArray} (h : Txts w B v l) (k : Below B w w') : Txts w' B v l := h.keep fun _ hp => k.cell hp
theorem Txts.more {w : World} {B B' : Nat} {v : Value} {l : List ByteArray} (h : Txts w B v l) (k : B ≤ B') : Txts w B' v l := by
  obtain ⟨A, c, e, f⟩ := h
  refine ⟨A, c, e, fun i hi => ?_⟩
  obtain ⟨a, e1, e2, e3⟩ := f i hi
  exact ⟨a, e1, by omega, e3⟩
theorem Txts.on {w w' : World} {v : Value} {l : List ByteArray} (h : Txts w w.heap.size v l) (k : Q w w') : Txts w' w'.heap.size v l := (h.below k).more k.size
theorem Txts.nil (w : World) (B : Nat) : Txts w B (.slice none 0 0) [] := ⟨none, 0, rfl, fun k h => absurd h (by simp)⟩
/-- A row of texts that the call itself has made. -/
theorem Txts.own {w : World} {base e : Nat} {v : Value} {n : Nat} {l : List ByteArray} (h : w.ownsRow base e 1 v n (l.map Value.string)) : Txts w w.heap.size v l := by
  have hn : n = l.length := by have := h.1; simpa using this.symm
  subst hn
  rcases h.2 with ⟨rfl, h0⟩ | ⟨g, cap, cur, rfl, hb, hg, h1, h2, h3, h4⟩
  · rw [List.length_eq_zero_iff.1 h0]; exact Txts.nil _ _
  · refine ⟨_, _, rfl, fun k hk => ⟨⟨g, 0, none⟩, rfl, lt_of_block hg, ?_⟩⟩
    exact h.cells (g := g) rfl k _ (by simp [hk])
end Go.Proofs.Yteoondmakdghhaa

namespace Go.Proofs.Yteoondmakdghhaa
set_option maxRecDepth 100000
open Go.ChangeShapes Go.WideShapes Go.ChangeAt Go.RowKit
set_option linter.unusedVariables false
set_option linter.unusedSimpArgs false
/-- cellarer/api.Zone, and api.Device, as plain values. -/
structure Zn where
  b : List ByteArray
  firm : Int
  full : Bool
structure Dv where
  zs : List Zn
  size : Int
  mo : Int
  fuel : Int
  off : Bool
  bad : Int
def noZn : Zn := ⟨[], 0, false⟩
def noDv : Dv := ⟨[], 0, 0, 0, false, 0⟩
def isOpen (z : Zn) : Bool := decide (0 < z.b.length) && !z.full
def openN (l : List Zn) : Nat := (l.filter isOpen).length
def okZn (n : Int) (z : Zn) : Bool := decide ((z.b.length : Int) ≤ n) && (decide (0 ≤ z.firm) && (decide (z.firm ≤ z.b.length) && (z.b.all (fun s => decide (s.size = 64)) && ((!decide ((z.b.length : Int) = n) || z.full) && (!decide (z.b.length = 0) || !z.full)))))
theorem okZn_iff {n : Int} {z : Zn} : okZn n z = true ↔ (z.b.length : Int) ≤ n ∧ 0 ≤ z.firm ∧ z.firm ≤ z.b.length ∧ (∀ s ∈ z.b, s.size = 64) ∧ ((z.b.length : Int) = n → z.full = true) ∧ (z.b.length = 0 → z.full = false) := by
  have h1 : ∀ (p : Prop) [Decidable p] (c : Bool), ((!decide p || c) = true ↔ (p → c = true)) := fun p _ c => by by_cases h : p <;> simp [h]
  unfold okZn
  rw [Bool.and_eq_true, Bool.and_eq_true, Bool.and_eq_true, Bool.and_eq_true, Bool.and_eq_true, h1, h1]
  simp only [decide_eq_true_eq, List.all_eq_true, Bool.not_eq_true']
def mayD (d : Dv) : Bool := decide (1 ≤ d.zs.length) && (decide (d.zs.length ≤ 40) && (decide (1 ≤ d.size) && (decide (d.size ≤ 300) && (decide (1 ≤ d.mo) && (decide (-1 ≤ d.fuel) && (decide (0 ≤ d.bad) && (d.zs.all (okZn d.size) && decide ((openN d.zs : Int) ≤ d.mo))))))))
theorem mayD_iff {d : Dv} : mayD d = true ↔ 1 ≤ d.zs.length ∧ d.zs.length ≤ 40 ∧ 1 ≤ d.size ∧ d.size ≤ 300 ∧ 1 ≤ d.mo ∧ -1 ≤ d.fuel ∧ 0 ≤ d.bad ∧ (∀ z ∈ d.zs, okZn d.size z = true) ∧ (openN d.zs : Int) ≤ d.mo := by
  unfold mayD
  rw [Bool.and_eq_true, Bool.and_eq_true, Bool.and_eq_true, Bool.and_eq_true, Bool.and_eq_true, Bool.and_eq_true, Bool.and_eq_true, Bool.and_eq_true]
  simp only [decide_eq_true_eq, List.all_eq_true]
/-- A command that burns; one that is refused. -/
def burnD (d : Dv) : Dv × Bool := if d.off = true ∨ d.fuel = 0 then ({ d with off := true }, false) else ({ d with fuel := if 0 < d.fuel then d.fuel - 1 else d.fuel }, true)
def refD (d : Dv) : Dv := { d with bad := if d.bad = 9223372036854775807 then 0 else d.bad + 1 }
def setZn (d : Dv) (i : Nat) (x : Zn) : Dv := { d with zs := d.zs.set i x }
def atZn (d : Dv) (i : Nat) : Zn := d.zs[i]?.getD noZn
theorem atZn_is {d : Dv} {i : Nat} (h : i < d.zs.length) : atZn d i = d.zs[i] := by unfold atZn; rw [List.getElem?_eq_getElem h]; rfl
/-- Octets as blocks. -/
def blocksOf (s : ByteArray) (n : Nat) : List ByteArray := (List.range n).map fun i => s.extract (64 * i) (64 * i + 64)
/-- Some blocks written into zone i, which is x so far. -/
def writeD (i : Nat) : Dv → Zn → List ByteArray → Dv × Nat
  | d, _, [] => (d, 0)
  | d, x, b :: r => if (burnD d).2 = true then writeD i (setZn (burnD d).1 i ⟨x.b ++ [b], x.firm, decide ((x.b.length : Int) + 1 = d.size)⟩) ⟨x.b ++ [b], x.firm, decide ((x.b.length : Int) + 1 = d.size)⟩ r else ((burnD d).1, 10)
def hasZ (d : Dv) (z : Int) : Prop := 0 ≤ z ∧ z < d.zs.length
instance (d : Dv) (z : Int) : Decidable (hasZ d z) := by unfold hasZ; exact inferInstance
/-- What Append comes to, and the error's number. -/
def appD (d : Dv) (z : Int) (s : ByteArray) : Dv × Nat :=
  if mayD d = false ∨ s.size = 0 ∨ s.size % 64 ≠ 0 then (noDv, 1)
  else if hasZ d z then
    if (atZn d z.toNat).full = true ∨ d.size < ((atZn d z.toNat).b.length : Int) + (s.size / 64 : Nat) ∨ ((atZn d z.toNat).b.length = 0 ∧ d.mo ≤ openN d.zs) then (refD d, 8)
    else writeD z.toNat d (atZn d z.toNat) (blocksOf s (s.size / 64))
  else (refD d, 12)
def finD (d : Dv) (z : Int) : Dv × Nat :=
  if mayD d = false then (noDv, 1)
  else if hasZ d z then
    if (atZn d z.toNat).full = true ∨ (atZn d z.toNat).b.length = 0 then (refD d, 8)
    else if (burnD d).2 = true then (setZn (burnD d).1 z.toNat { atZn d z.toNat with full := true }, 0) else ((burnD d).1, 10)
  else (refD d, 12)
def resD (d : Dv) (z : Int) : Dv × Nat :=
  if mayD d = false then (noDv, 1)
  else if hasZ d z then
    if (atZn d z.toNat).b.length = 0 then (refD d, 8)
    else if (burnD d).2 = true then (setZn (burnD d).1 z.toNat noZn, 0) else ((burnD d).1, 10)
  else (refD d, 12)
def firmZ (z : Zn) : Zn := { z with firm := (z.b.length : Nat) }
def fluD (d : Dv) : Dv × Nat :=
  if mayD d = false then (noDv, 1)
  else if (burnD d).2 = true then ({ (burnD d).1 with zs := d.zs.map firmZ }, 0) else ((burnD d).1, 10)
/-- api.Loss, as a plain value. -/
structure Ls where
  keep : List Int
  zone : Int
  cut : Int
def tearB (s : ByteArray) (c : Int) : ByteArray := mk ((bl s).take c.toNat ++ List.replicate (64 - c.toNat) 0)
/-- How many blocks of a zone stay. -/
def keptN (l : Ls) (i : Nat) (z : Zn) : Nat := min z.b.length (z.firm.toNat + (l.keep[i]?.getD 0).toNat)
def crashB (l : Ls) (i : Nat) (z : Zn) : List ByteArray :=
  z.b.take (keptN l i z) ++ (if (i : Int) = l.zone ∧ 0 < l.cut then ((z.b.drop (keptN l i z)).take 1).map (fun s => tearB s l.cut) else [])
def crashZ (l : Ls) (i : Nat) (z : Zn) : Zn := ⟨crashB l i z, ((crashB l i z).length : Nat), decide (0 < (crashB l i z).length)⟩
def crashD (d : Dv) (l : Ls) : Dv :=
  if mayD d = false then noDv
  else { d with zs := (List.range d.zs.length).map (fun i => crashZ l i (atZn d i)), off := false, fuel := -1 }
def newD (n s o : Int) : Dv × Nat :=
  if 1 ≤ n ∧ n ≤ 40 ∧ 1 ≤ s ∧ s ≤ 300 ∧ 1 ≤ o then (⟨List.replicate n.toNat noZn, s, o, -1, false, 0⟩, 0) else (noDv, 1)
def fuelD (d : Dv) (n : Int) : Dv × Nat := if mayD d = false ∨ n < -1 then (noDv, 1) else ({ d with fuel := n }, 0)
theorem openN_rep (n : Nat) : openN (List.replicate n noZn) = 0 := by
  unfold openN
  rw [List.length_eq_zero_iff, List.filter_eq_nil_iff]
  intro z hz
  rw [(List.mem_replicate.1 hz).2]; decide
theorem new_may {n s o : Int} (h : 1 ≤ n ∧ n ≤ 40 ∧ 1 ≤ s ∧ s ≤ 300 ∧ 1 ≤ o) : mayD (newD n s o).1 = true := by
  unfold newD
  rw [if_pos h]
  refine mayD_iff.2 ⟨by simp; omega, by simp; omega, h.2.2.1, h.2.2.2.1, h.2.2.2.2, by show (-1 : Int) ≤ -1; omega, Int.le_refl _, fun z hz => ?_, ?_⟩
  · rw [(List.mem_replicate.1 hz).2]
    exact okZn_iff.2 ⟨by show ((0 : Nat) : Int) ≤ s; omega, Int.le_refl _, Int.le_refl _, by simp [noZn], fun e => by simp [noZn] at e; omega, fun _ => rfl⟩
  · show ((openN (List.replicate n.toNat noZn) : Nat) : Int) ≤ o
    rw [openN_rep]; omega
theorem burn_zs (d : Dv) : (burnD d).1.zs = d.zs := by unfold burnD; split <;> rfl
theorem burn_sz (d : Dv) : (burnD d).1.size = d.size := by unfold burnD; split <;> rfl
theorem burn_bad (d : Dv) : (burnD d).1.bad = d.bad := by unfold burnD; split <;> rfl
end Go.Proofs.Yteoondmakdghhaa

namespace Go.Proofs.Yteoondmakdghhaa
set_option maxRecDepth 100000
open Go.ChangeShapes Go.WideShapes Go.ChangeAt Go.RowKit
set_option linter.unusedVariables false
set_option linter.unusedSimpArgs false
/-- All zones but one are as they were. -/
def Others (z : Int) (d x : Dv) : Prop := x.zs.length = d.zs.length ∧ ∀ j : Nat, (j : Int) ≠ z → x.zs[j]? = d.zs[j]?
theorem Others.refl (z : Int) (d : Dv) : Others z d d := ⟨rfl, fun _ _ => rfl⟩
theorem set_set (d : Dv) (i : Nat) (x y : Zn) : setZn (setZn d i x) i y = setZn d i y := by simp [setZn]
/-- So many blocks of one octet. -/
def octsB (c n : Nat) : ByteArray := mk (List.replicate (64 * n) c.toUInt8)
theorem octsB_size (c n : Nat) : (octsB c n).size = 64 * n := by rw [octsB, mk_size, List.length_replicate]
/-- Something that is done. -/
structure Ac where
  kind : Nat
  zone : Nat
  many : Nat
  c : Nat
def actD (d : Dv) (a : Ac) : Dv × Nat :=
  if a.kind % 5 < 2 then appD d ((a.zone % 5 : Nat) : Int) (octsB a.c (1 + a.many % 4))
  else if a.kind % 5 = 2 then finD d ((a.zone % 5 : Nat) : Int)
  else if a.kind % 5 = 3 then resD d ((a.zone % 5 : Nat) : Int)
  else fluD d
/-- What an act comes to: it is refused, or it is done, or the power is off. -/
inductive ActC (d : Dv) (a : Ac) : Dv × Nat → Prop
  | no (e : Nat) (h : e = 12 ∨ e = 8) : ActC d a (refD d, e)
  | yes (x : Dv) (e : Nat) (h : e = 0 ∨ e = 10) (may : mayD x = true) (len : x.zs.length = d.zs.length) (mo : x.mo = d.mo) (sz : x.size = d.size) (bad : x.bad = d.bad) : ActC d a (x, e)
end Go.Proofs.Yteoondmakdghhaa

namespace Go.Proofs.Yteoondmakdghhaa
set_option maxRecDepth 100000
open Go.ChangeShapes Go.WideShapes Go.ChangeAt Go.RowKit
set_option linter.unusedVariables false
set_option linter.unusedSimpArgs false
/-- All zones' blocks are still there, and as firm. -/
def Grow (d x : Dv) : Prop := x.zs.length = d.zs.length ∧ ∀ i (h : i < d.zs.length) (k : i < x.zs.length), (∃ r, x.zs[i].b = d.zs[i].b ++ r) ∧ x.zs[i].firm = d.zs[i].firm
theorem Grow.refl (d : Dv) : Grow d d := ⟨rfl, fun i h k => ⟨⟨[], by simp⟩, rfl⟩⟩
theorem Grow.trans {a b c : Dv} (h : Grow a b) (k : Grow b c) : Grow a c := by
  refine ⟨k.1.trans h.1, fun i hi hk => ?_⟩
  obtain ⟨⟨r, e1⟩, e2⟩ := h.2 i hi (by rw [h.1]; exact hi)
  obtain ⟨⟨s, f1⟩, f2⟩ := k.2 i (by rw [h.1]; exact hi) hk
  exact ⟨⟨r ++ s, by rw [f1, e1, List.append_assoc]⟩, f2.trans e2⟩
/-- With fuel: what an act needs, and what is left. -/
def needA (a : Ac) : Nat := if a.kind % 5 < 2 then 1 + a.many % 4 else 1
theorem keptN_le (l : Ls) (i : Nat) (z : Zn) : keptN l i z ≤ z.b.length := Nat.min_le_left _ _
theorem crashB_len (l : Ls) (i : Nat) (z : Zn) : keptN l i z ≤ (crashB l i z).length ∧ (crashB l i z).length ≤ z.b.length ∧ ((crashB l i z).length = keptN l i z ∨ ((crashB l i z).length = keptN l i z + 1 ∧ (i : Int) = l.zone ∧ 0 < l.cut)) := by
  have hk := keptN_le l i z
  unfold crashB
  rw [List.length_append, List.length_take]
  split
  · rename_i h
    rw [List.length_map, List.length_take, List.length_drop]
    by_cases q : keptN l i z = z.b.length
    · refine ⟨by omega, by omega, .inl (by omega)⟩
    · refine ⟨by omega, by omega, .inr ⟨by omega, h⟩⟩
  · simp only [List.length_nil]
    refine ⟨by omega, by omega, .inl (by omega)⟩
end Go.Proofs.Yteoondmakdghhaa

namespace Go.Proofs.Yteoondmakdghhaa
set_option maxRecDepth 100000
open Go.ChangeShapes Go.WideShapes Go.ChangeAt Go.RowKit
set_option linter.unusedVariables false
theorem info_str : (Try.prog.info? 9).map (fun i => (i.zero, i.size, i.bytes)) = some (some (.string ⟨#[]⟩), 1, 16) := by kernel_rfl
end Go.Proofs.Yteoondmakdghhaa

namespace Go.Proofs.Yteoondmakdghhaa
set_option maxRecDepth 100000
open Go.ChangeShapes Go.WideShapes Go.ChangeAt Go.RowKit
set_option linter.unusedVariables false
set_option linter.unusedSimpArgs false
/-- Block B holds these cells. -/
def Bx (W : World) (B : Nat) (t : TypeId) (cs : Array Value) : Prop := W.heap[B]? = some (.cells cs t (0, 0))
theorem Bx.lt {W : World} {B : Nat} {t : TypeId} {cs : Array Value} (h : Bx W B t cs) : B < W.heap.size := (Array.getElem?_eq_some_iff.1 h).1
theorem Bx.cell {W : World} {B : Nat} {t : TypeId} {cs : Array Value} (h : Bx W B t cs) (i : Nat) : W.cell? ⟨B, i, none⟩ = cs[i]? := by simp [World.cell?, show W.heap[B]? = _ from h]
theorem Bx.frozen {W : World} {B : Nat} {t : TypeId} {cs : Array Value} (h : Bx W B t cs) (i : Nat) : W.frozen? ⟨B, i, none⟩ = false := by simp [World.frozen?, show W.heap[B]? = _ from h]
theorem Bx.new (W : World) (t : TypeId) (cs : Array Value) : Bx (W.alloc (.cells cs t)) W.heap.size t cs := heap_alloc_new W _
theorem Bx.same {W W' : World} {B : Nat} {t : TypeId} {cs : Array Value} (h : Bx W B t cs) (e : W'.heap[B]? = W.heap[B]?) : Bx W' B t cs := e.trans h
theorem Bx.on {W W' : World} {B : Nat} {t : TypeId} {cs : Array Value} (h : Bx W B t cs) (q : Q W W') : Bx W' B t cs := (q.block B h.lt).trans h
theorem Bx.alloc {W : World} {B : Nat} {t : TypeId} {cs : Array Value} (h : Bx W B t cs) (o : Obj) : Bx (W.alloc o) B t cs := h.on ((Q.refl _).alloc o)
theorem Bx.set {W : World} {B : Nat} {t : TypeId} {cs : Array Value} (h : Bx W B t cs) (i : Nat) (u : Value) : Bx (W.setCell ⟨B, i, none⟩ u) B t (cs.setIfInBounds i u) := by
  obtain ⟨hlt, hk⟩ := Array.getElem?_eq_some_iff.1 h
  show (W.heap.modify B _)[B]? = _
  rw [Array.getElem?_eq_getElem (by rw [Array.size_modify]; exact hlt), Array.getElem_modify_self, hk]
  rfl
theorem heap_set (W : World) (B i : Nat) (u : Value) {k : Nat} (h : k ≠ B) : (W.setCell ⟨B, i, none⟩ u).heap[k]? = W.heap[k]? := Below.heap_setCell _ _ _ k (by simpa using h)
theorem Bx.other {W : World} {B B2 : Nat} {t : TypeId} {cs : Array Value} (h : Bx W B t cs) (k : B ≠ B2) (i : Nat) (u : Value) : Bx (W.setCell ⟨B2, i, none⟩ u) B t cs := (heap_set W B2 i u k).trans h
theorem grown_set (W : World) (b i : Nat) (v : Value) : W.grownBy (W.setCell ⟨b, i, none⟩ v) (some b) :=
  ⟨rfl, rfl, rfl, by simp, fun k _ hk => heap_set W b i v (fun e => hk (by rw [e]))⟩
/-- A row of the call's own stays where a block below base is written. -/
theorem ownsRow_set {w : World} {base size n : Nat} {e : TypeId} {v : Value} {xs : List Value} (h : w.ownsRow base e size v n xs) {b i : Nat} {u : Value} (hb : b < base) : (w.setCell ⟨b, i, none⟩ u).ownsRow base e size v n xs := by
  refine World.ownsRow.kept h (grown_set w b i u) ?_
  cases e : v.ownBlock with
  | none => exact .inl rfl
  | some k => refine .inr fun e2 => ?_; injection e2 with e2; have := (World.ownsRow.lt h k e).1; omega
/-- Nothing that was there has changed, but block p. -/
def Kp (p : Nat) (w w' : World) : Prop := w.grownBy w' (some p)
theorem Kp.of {p : Nat} {w w' : World} (q : Q w w') : Kp p w w' := ⟨q.os, q.tape, q.output, q.size, fun k hk _ => q.block k hk⟩
theorem Kp.trans {p : Nat} {a b c : World} (h : Kp p a b) (k : Kp p b c) : Kp p a c :=
  ⟨k.os.trans h.os, k.tape.trans h.tape, k.output.trans h.output, Nat.le_trans h.size k.size, fun i hi hn => (k.block i (Nat.lt_of_lt_of_le hi h.size) hn).trans (h.block i hi hn)⟩
theorem Kp.set {p : Nat} {a b : World} (h : Kp p a b) (i : Nat) (u : Value) : Kp p a (b.setCell ⟨p, i, none⟩ u) := h.trans (grown_set b p i u)
theorem Kp.q {p : Nat} {w0 w w' : World} (q : Q w0 w) (h : Kp p w w') (hp : w0.heap.size ≤ p) : Q w0 w' :=
  Below.grown q h q.size (fun k e => by injection e with e; omega)
end Go.Proofs.Yteoondmakdghhaa

namespace Go.Proofs.Yteoondmakdghhaa
set_option maxRecDepth 100000
open Go.ChangeShapes Go.WideShapes Go.ChangeAt Go.RowKit
set_option linter.unusedVariables false
/-- A version. -/
structure Ver where
  id : Nat
  data : ByteArray
  mark : Bool
  tm : Int
/-- A version as a value, and as it lies in memory. -/
def ver (v : Ver) : Value := .agg #[.int .u64 (v.id : Nat), .string v.data, .bool v.mark, .int .i64 v.tm]
def vcells (v : Ver) : List Value := [.int .u64 (v.id : Nat), .string v.data, .bool v.mark, .int .i64 v.tm]
/-- May it be? -/
def mayV (v : Ver) : Bool := decide (v.id ≤ 281474976710655) && decide (v.data.size ≤ 2000) && (!v.mark || decide (v.data.size = 0)) && decide (0 ≤ v.tm) && decide (v.tm ≤ 1099511627775)
end Go.Proofs.Yteoondmakdghhaa

namespace Go.Proofs.Yteoondmakdghhaa
set_option maxRecDepth 100000
open Go.ChangeShapes Go.WideShapes Go.ChangeAt Go.RowKit
set_option linter.unusedVariables false
set_option linter.unusedSimpArgs false
/-- A version lies at p. -/
def At (w : World) (p : Addr) (v : Ver) : Prop :=
  w.cell? p = some (.int .u64 (v.id : Nat)) ∧ w.cell? ⟨p.block, p.off + 1, none⟩ = some (.string v.data) ∧ w.cell? ⟨p.block, p.off + 2, none⟩ = some (.bool v.mark) ∧ w.cell? ⟨p.block, p.off + 3, none⟩ = some (.int .i64 v.tm)
/-- What every version in memory is. -/
def okV (v : Ver) : Prop := v.id < 18446744073709551616 ∧ v.data.size ≤ maxLen ∧ -9223372036854775808 ≤ v.tm ∧ v.tm ≤ 9223372036854775807
/-- A slice whose elements are these versions; all of it lies below block B. -/
def Vers (w : World) (B : Nat) (v : Value) (l : List Ver) : Prop :=
  ∃ A c, v = .slice A l.length c ∧ l.length ≤ c ∧ (A = none → c = 0) ∧ (∀ x ∈ l, okV x) ∧ ∀ k (h : k < l.length), ∃ a : Addr, A = some a ∧ a.block < B ∧ At w (a.add (k * 4)) l[k]
theorem add_pos (p : Addr) {k : Nat} (h : 0 < k) : p.add k = ⟨p.block, p.off + k, none⟩ := by
  unfold Addr.add; rw [if_neg (by omega)]
theorem At.keep {w w' : World} {p : Addr} {v : Ver} (h : At w p v) {B : Nat} (hp : p.block < B) (k : ∀ p : Addr, p.block < B → w'.cell? p = w.cell? p) : At w' p v :=
  ⟨(k p hp).trans h.1, (k ⟨p.block, p.off + 1, none⟩ hp).trans h.2.1, (k ⟨p.block, p.off + 2, none⟩ hp).trans h.2.2.1, (k ⟨p.block, p.off + 3, none⟩ hp).trans h.2.2.2⟩
theorem Vers.keep {w w' : World} {B : Nat} {v : Value} {l : List Ver} (h : Vers w B v l) (k : ∀ p : Addr, p.block < B → w'.cell? p = w.cell? p) : Vers w' B v l := by
  obtain ⟨A, c, e, e0, ez, eo, f⟩ := h
  refine ⟨A, c, e, e0, ez, eo, fun i hi => ?_⟩
  obtain ⟨a, e1, e2, e3⟩ := f i hi
  exact ⟨a, e1, e2, e3.keep (by rw [add_block]; exact e2) k⟩
theorem Vers.below {w w' : World} {B : Nat} {v : Value} {l : List Ver} (h : Vers w B v l) (k : Below B w w') : Vers w' B v l := h.keep fun _ hp => k.cell hp
theorem Vers.more {w : World} {B B' : Nat} {v : Value} {l : List Ver} (h : Vers w B v l) (k : B ≤ B') : Vers w B' v l := by
  obtain ⟨A, c, e, e0, ez, eo, f⟩ := h
  refine ⟨A, c, e, e0, ez, eo, fun i hi => ?_⟩
  obtain ⟨a, e1, e2, e3⟩ := f i hi
  exact ⟨a, e1, by omega, e3⟩
theorem Vers.on {w w' : World} {v : Value} {l : List Ver} (h : Vers w w.heap.size v l) (k : Q w w') : Vers w' w'.heap.size v l := (h.below k).more k.size
theorem Vers.nil (w : World) (B : Nat) : Vers w B (.slice none 0 0) [] := ⟨none, 0, rfl, Nat.le_refl _, fun _ => rfl, by simp, fun k h => absurd h (by simp)⟩
theorem list_of {α : Type} {P : Nat → α → Prop} (n : Nat) (h : ∀ i, i < n → ∃ x, P i x) : ∃ l : List α, l.length = n ∧ ∀ i (hi : i < l.length), P i l[i] := by
  induction n with
  | zero => exact ⟨[], rfl, fun i hi => absurd hi (by simp)⟩
  | succ n ih =>
    obtain ⟨l, hl, hp⟩ := ih fun i hi => h i (by omega)
    obtain ⟨x, hx⟩ := h n (by omega)
    refine ⟨l ++ [x], by simp [hl], fun i hi => ?_⟩
    by_cases hin : i < l.length
    · rw [List.getElem_append_left hin]; exact hp i hin
    · have : i = n := by simp at hi; omega
      subst this
      rw [List.getElem_append_right (by omega)]
      simpa [hl] using hx
theorem own : ownKnob Try.prog.godebug = none := by kernel_rfl
theorem laid : laidOutB Try.prog = true := by kernel_rfl
theorem wf64 {a : Int} (h : (Lit.int .i64 a).wf = true) : -9223372036854775808 ≤ a ∧ a ≤ 9223372036854775807 := by
  simpa [Lit.wf, IntKind.min, IntKind.max, IntKind.signed, IntKind.bits] using h
end Go.Proofs.Yteoondmakdghhaa

namespace Go.Proofs.Yteoondmakdghhaa
set_option maxRecDepth 100000
open Go.ChangeShapes Go.WideShapes Go.ChangeAt Go.RowKit
set_option linter.unusedVariables false
set_option linter.unusedSimpArgs false
set_option maxRecDepth 100000
theorem Q.set {a b : World} {g k : Nat} (h : Q a b) (hg : a.heap.size ≤ g) (u : Value) : Q a (b.setCell ⟨g, k, none⟩ u) := Below.setCell h (p := ⟨g, k, none⟩) (by simpa using hg) u
/-- A slice of texts, with its room. -/
def Blks (w : World) (B : Nat) (v : Value) (l : List ByteArray) : Prop :=
  ∃ A c, v = .slice A l.length c ∧ l.length ≤ c ∧ (A = none → c = 0) ∧ ∀ k (h : k < l.length), ∃ a : Addr, A = some a ∧ a.block < B ∧ w.cell? (a.add k) = some (.string l[k])
theorem Blks.txts {w : World} {B : Nat} {v : Value} {l : List ByteArray} (h : Blks w B v l) : Txts w B v l := by
  obtain ⟨A, c, e, -, -, f⟩ := h; exact ⟨A, c, e, f⟩
theorem Blks.keep {w w' : World} {B : Nat} {v : Value} {l : List ByteArray} (h : Blks w B v l) (k : ∀ p : Addr, p.block < B → w'.cell? p = w.cell? p) : Blks w' B v l := by
  obtain ⟨A, c, e, e0, ez, f⟩ := h
  refine ⟨A, c, e, e0, ez, fun i hi => ?_⟩
  obtain ⟨a, e1, e2, e3⟩ := f i hi
  exact ⟨a, e1, e2, (k _ (by rw [add_block]; exact e2)).trans e3⟩
theorem Blks.below {w w' : World} {B : Nat} {v : Value} {l : List ByteArray} (h : Blks w B v l) (k : Below B w w') : Blks w' B v l := h.keep fun _ hp => k.cell hp
theorem Blks.more {w : World} {B B' : Nat} {v : Value} {l : List ByteArray} (h : Blks w B v l) (k : B ≤ B') : Blks w B' v l := by
  obtain ⟨A, c, e, e0, ez, f⟩ := h
  refine ⟨A, c, e, e0, ez, fun i hi => ?_⟩
  obtain ⟨a, e1, e2, e3⟩ := f i hi
  exact ⟨a, e1, by omega, e3⟩
theorem Blks.on {w w' : World} {v : Value} {l : List ByteArray} (h : Blks w w.heap.size v l) (k : Q w w') : Blks w' w'.heap.size v l := (h.below k).more k.size
theorem Blks.nil (w : World) (B : Nat) : Blks w B (.slice none 0 0) [] := ⟨none, 0, rfl, Nat.le_refl _, fun _ => rfl, fun k h => absurd h (by simp)⟩
theorem Blks.form {w : World} {B : Nat} {v : Value} {l : List ByteArray} (h : Blks w B v l) : ∃ A c, v = .slice A l.length c := by
  obtain ⟨A, c, e, -⟩ := h; exact ⟨A, c, e⟩
theorem Blks.cutTake {w : World} {B : Nat} {A : Option Addr} {n c : Nat} {l : List ByteArray} (h : Blks w B (.slice A n c) l) {i : Nat} (hi : i ≤ l.length) : Blks w B (.slice A i c) (l.take i) := by
  obtain ⟨A, c', e, e0, ez, f⟩ := h
  injection e with e1 e2 e3
  subst e1 e2 e3
  have hlen : (l.take i).length = i := by rw [List.length_take]; omega
  refine ⟨_, _, by rw [hlen], by omega, ez, fun k hk => ?_⟩
  obtain ⟨a', e1, e2, e3⟩ := f k (by omega)
  exact ⟨a', e1, e2, by rw [List.getElem_take]; exact e3⟩
/-- A row of texts of the call's own. -/
def OwnT (base : Nat) (w : World) (v : Value) (l : List ByteArray) : Prop := w.ownsRow base 9 1 v l.length (l.map Value.string)
theorem OwnT.nil (base : Nat) (w : World) : OwnT base w (.slice none 0 0) [] := World.ownsRow_nil w _ _ _
theorem OwnT.on {base : Nat} {w w' : World} {v : Value} {l : List ByteArray} (h : OwnT base w v l) (q : Q w w') : OwnT base w' v l := by
  rcases h.2 with ⟨rfl, h0⟩ | ⟨g, cap, cur, rfl, hb, hg, h1, h2, h3, h4⟩
  · exact ⟨h.1, .inl ⟨rfl, h0⟩⟩
  · exact ⟨h.1, .inr ⟨g, cap, cur, rfl, hb, (q.block g (lt_of_block hg)).trans hg, h1, h2, h3, h4⟩⟩
theorem OwnT.low {base b2 : Nat} {w : World} {v : Value} {l : List ByteArray} (h : OwnT base w v l) (k : b2 ≤ base) : OwnT b2 w v l := by
  rcases h.2 with ⟨rfl, h0⟩ | ⟨g, cap, cur, rfl, hb, r⟩
  · exact ⟨h.1, .inl ⟨rfl, h0⟩⟩
  · exact ⟨h.1, .inr ⟨g, cap, cur, rfl, by omega, r⟩⟩
theorem OwnT.form {base : Nat} {w : World} {v : Value} {l : List ByteArray} (h : OwnT base w v l) : ∃ A c, v = .slice A l.length c := by
  rcases h.2 with ⟨rfl, h0⟩ | ⟨g, cap, cur, rfl, -⟩
  · exact ⟨none, 0, by rw [h0]⟩
  · exact ⟨_, _, rfl⟩
theorem OwnT.read {base : Nat} {w : World} {v : Value} {l : List ByteArray} (h : OwnT base w v l) : Blks w w.heap.size v l := by
  rcases h.2 with ⟨rfl, h0⟩ | ⟨g, cap, cur, rfl, hb, hg, h1, h2, h3, h4⟩
  · rw [List.length_eq_zero_iff.1 h0]; exact Blks.nil _ _
  · refine ⟨_, _, rfl, h1, by simp, fun k hk => ⟨⟨g, 0, none⟩, rfl, lt_of_block hg, ?_⟩⟩
    exact h.cells (g := g) rfl k _ (by simp [hk])
/-- A zone lies at p; its blocks lie below block B. -/
def AtZ (w : World) (B : Nat) (p : Addr) (z : Zn) : Prop :=
  w.cell? ⟨p.block, p.off + 1, none⟩ = some (.int .i64 z.firm) ∧ w.cell? ⟨p.block, p.off + 2, none⟩ = some (.bool z.full) ∧ ∃ u, w.cell? p = some u ∧ Blks w B u z.b
def okZ (z : Zn) : Prop := z.b.length ≤ maxLen ∧ -9223372036854775808 ≤ z.firm ∧ z.firm ≤ 9223372036854775807
/-- A slice whose elements are these zones; all of it lies below block B. -/
def Zns (w : World) (B : Nat) (v : Value) (l : List Zn) : Prop :=
  ∃ A c, v = .slice A l.length c ∧ l.length ≤ c ∧ (A = none → c = 0) ∧ (∀ x ∈ l, okZ x) ∧ ∀ k (h : k < l.length), ∃ a : Addr, A = some a ∧ a.block < B ∧ AtZ w B (a.add (k * 3)) l[k]
theorem AtZ.below {w w' : World} {B : Nat} {p : Addr} {e : Zn} (h : AtZ w B p e) (hp : p.block < B) (k : Below B w w') : AtZ w' B p e := by
  obtain ⟨h1, h2, u, h3, h4⟩ := h
  exact ⟨(k.cell (p := ⟨p.block, p.off + 1, none⟩) hp).trans h1, (k.cell (p := ⟨p.block, p.off + 2, none⟩) hp).trans h2, u, (k.cell hp).trans h3, h4.below k⟩
theorem AtZ.more {w : World} {B B' : Nat} {p : Addr} {e : Zn} (h : AtZ w B p e) (k : B ≤ B') : AtZ w B' p e := by
  obtain ⟨h1, h2, u, h3, h4⟩ := h
  exact ⟨h1, h2, u, h3, h4.more k⟩
theorem Zns.below {w w' : World} {B : Nat} {v : Value} {l : List Zn} (h : Zns w B v l) (k : Below B w w') : Zns w' B v l := by
  obtain ⟨A, c, e, e0, ez, eo, f⟩ := h
  refine ⟨A, c, e, e0, ez, eo, fun i hi => ?_⟩
  obtain ⟨a, e1, e2, e3⟩ := f i hi
  exact ⟨a, e1, e2, e3.below (by rw [add_block]; exact e2) k⟩
theorem Zns.more {w : World} {B B' : Nat} {v : Value} {l : List Zn} (h : Zns w B v l) (k : B ≤ B') : Zns w B' v l := by
  obtain ⟨A, c, e, e0, ez, eo, f⟩ := h
  refine ⟨A, c, e, e0, ez, eo, fun i hi => ?_⟩
  obtain ⟨a, e1, e2, e3⟩ := f i hi
  exact ⟨a, e1, by omega, e3.more k⟩
theorem Zns.on {w w' : World} {v : Value} {l : List Zn} (h : Zns w w.heap.size v l) (k : Q w w') : Zns w' w'.heap.size v l := (h.below k).more k.size
theorem Zns.nil (w : World) (B : Nat) : Zns w B (.slice none 0 0) [] := ⟨none, 0, rfl, Nat.le_refl _, fun _ => rfl, by simp, fun k h => absurd h (by simp)⟩
theorem Zns.okAll {w : World} {B : Nat} {v : Value} {l : List Zn} (h : Zns w B v l) : ∀ x ∈ l, okZ x := by
  obtain ⟨A, c, e, e0, ez, eo, f⟩ := h; exact eo
theorem Zns.form {w : World} {B : Nat} {v : Value} {l : List Zn} (h : Zns w B v l) : ∃ A c, v = .slice A l.length c := by
  obtain ⟨A, c, e, -⟩ := h; exact ⟨A, c, e⟩
theorem Zns.cutTake {w : World} {B : Nat} {A : Option Addr} {n c : Nat} {l : List Zn} (h : Zns w B (.slice A n c) l) {i : Nat} (hi : i ≤ l.length) : Zns w B (.slice A i c) (l.take i) := by
  obtain ⟨A, c', e, e0, ez, eo, f⟩ := h
  injection e with e1 e2 e3
  subst e1 e2 e3
  have hlen : (l.take i).length = i := by rw [List.length_take]; omega
  refine ⟨_, _, by rw [hlen], by omega, ez, fun x hx => eo x (List.mem_of_mem_take hx), fun k hk => ?_⟩
  obtain ⟨a', e1, e2, e3⟩ := f k (by omega)
  exact ⟨a', e1, e2, by rw [List.getElem_take]; exact e3⟩
/-- One of a slice, as it lies in every later world. -/
theorem Zns.pick {w : World} {v : Value} {l : List Zn} (h : Zns w w.heap.size v l) (i : Nat) (hi : i < l.length) :
    ∃ (a : Addr) (c : Nat) (A : Option Addr) (n : Nat), v = .slice (some a) l.length c ∧ a.block < w.heap.size ∧ okZ l[i] ∧ ∀ d, Q w d → d.cell? (a.add (i * 3)) = some (.slice A l[i].b.length n) ∧ d.cell? ⟨(a.add (i * 3)).block, (a.add (i * 3)).off + 1, none⟩ = some (.int .i64 l[i].firm) ∧ d.cell? ⟨(a.add (i * 3)).block, (a.add (i * 3)).off + 2, none⟩ = some (.bool l[i].full) ∧ Blks d d.heap.size (.slice A l[i].b.length n) l[i].b := by
  obtain ⟨A, c, rfl, -, -, eo, f⟩ := h
  obtain ⟨a, rfl, ha, h1, h2, u, h3, h4⟩ := f i hi
  obtain ⟨A, n, rfl⟩ := h4.form
  exact ⟨a, c, A, n, rfl, ha, eo _ (List.getElem_mem hi), fun d q => ⟨(q.cell (by rw [add_block]; exact ha)).trans h3, (q.cell (p := ⟨(a.add (i * 3)).block, (a.add (i * 3)).off + 1, none⟩) (by show (a.add (i * 3)).block < _; rw [add_block]; exact ha)).trans h1, (q.cell (p := ⟨(a.add (i * 3)).block, (a.add (i * 3)).off + 2, none⟩) (by show (a.add (i * 3)).block < _; rw [add_block]; exact ha)).trans h2, h4.on q⟩⟩
theorem cells_zn : Try.prog.cellsOf 45 = 3 := by kernel_rfl
theorem info_zn : (Try.prog.info? 45).map (fun i => (i.zero, i.size, i.bytes)) = some (some (.agg #[.slice none 0 0, .int .i64 0, .bool false]), 3, 40) := by kernel_rfl
/-- What a row of zones is made of: each zone with the value of its blocks. -/
def zcl (p : Zn × Value) : List Value := [p.2, .int .i64 p.1.firm, .bool p.1.full]
theorem flat_zcl (P : List (Zn × Value)) : (P.flatMap zcl).length = P.length * 3 := by
  induction P with
  | nil => rfl
  | cons x r ih => rw [List.flatMap_cons, List.length_append, ih, List.length_cons, show (zcl x).length = 3 by rfl]; omega
theorem flat_atZ (P : List (Zn × Value)) (k : Nat) (h : k < P.length) {j : Nat} (hj : j < 3) : (P.flatMap zcl)[k * 3 + j]? = (zcl P[k])[j]? := by
  induction P generalizing k with
  | nil => simp at h
  | cons x r ih =>
    rw [List.flatMap_cons]
    cases k with
    | zero => rw [List.getElem?_append_left (by rw [show (zcl x).length = 3 by rfl]; omega)]; simp
    | succ k =>
      rw [List.getElem?_append_right (by rw [show (zcl x).length = 3 by rfl]; omega), show (k + 1) * 3 + j - (zcl x).length = k * 3 + j by rw [show (zcl x).length = 3 by rfl]; omega, ih k (by simpa using h)]
      rfl
theorem zcl_one {p : Zn × Value} (h : ∃ A n c, p.2 = .slice A n c) : ∀ u ∈ zcl p, u.oneCell' = true := by
  intro u hu
  obtain ⟨A, n, c, e⟩ := h
  simp [zcl] at hu
  rcases hu with rfl | rfl | rfl
  · rw [e]; rfl
  · rfl
  · rfl
/-- A list of blocks that lies below base, or is a row of the call's own, from base on. -/
def AptZ (base : Nat) (w : World) (u : Value) (L : List ByteArray) : Prop := Blks w base u L ∨ OwnT base w u L
theorem AptZ.blks {base : Nat} {w : World} {u : Value} {L : List ByteArray} (h : AptZ base w u L) (hb : base ≤ w.heap.size) : Blks w w.heap.size u L := by
  rcases h with h | h
  · exact h.more hb
  · exact h.read
theorem AptZ.on {base : Nat} {w w' : World} {u : Value} {L : List ByteArray} (h : AptZ base w u L) (q : Q w w') (hb : base ≤ w.heap.size) : AptZ base w' u L := by
  rcases h with h | h
  · exact .inl (h.below (Below.mono q hb))
  · exact .inr (h.on q)
theorem AptZ.shape {base : Nat} {w : World} {u : Value} {L : List ByteArray} (h : AptZ base w u L) : ∃ A n c, u = .slice A n c := by
  rcases h with h | h
  · obtain ⟨A, c, e⟩ := h.form; exact ⟨A, _, c, e⟩
  · obtain ⟨A, c, e⟩ := h.form; exact ⟨A, _, c, e⟩
/-- v is a row of the call's own, from block base on, of these zones. -/
def RowZ (base : Nat) (w : World) (v : Value) (P : List (Zn × Value)) : Prop := w.ownsRow base 45 3 v P.length (P.flatMap zcl)
theorem RowZ.on {base : Nat} {w w' : World} {v : Value} {P : List (Zn × Value)} (h : RowZ base w v P) (q : Q w w') : RowZ base w' v P := by
  rcases h.2 with ⟨rfl, h0⟩ | ⟨g, cap, cur, rfl, hb, hg, h1, h2, h3, h4⟩
  · exact ⟨h.1, .inl ⟨rfl, h0⟩⟩
  · exact ⟨h.1, .inr ⟨g, cap, cur, rfl, hb, (q.block g (lt_of_block hg)).trans hg, h1, h2, h3, h4⟩⟩
theorem AptZ.grown {base : Nat} {w w' : World} {v u : Value} {P : List (Zn × Value)} {L : List ByteArray} (h : AptZ base w u L) (r : RowZ base w v P) (g : w.grownBy w' v.ownBlock) (hb : base ≤ w.heap.size) : AptZ base w' u L := by
  rcases h with h2 | h2
  · refine .inl (h2.keep fun p hp => World.cell?_of_block (g.block p.block (by omega) fun e => ?_))
    have := (World.ownsRow.lt r p.block e.symm).1
    omega
  · refine .inr (World.ownsRow.kept h2 g ?_)
    rcases h2.2 with ⟨rfl, -⟩ | ⟨k, cap, cur, rfl, -, hk, -⟩
    · exact .inl rfl
    · refine .inr fun e => ?_
      rcases r.2 with ⟨rfl, -⟩ | ⟨k', cap', cur', rfl, -, hk', -⟩
      · simp [Value.ownBlock] at e
      · simp [Value.ownBlock] at e
        subst e
        rw [hk] at hk'
        injection hk' with hk'
        injection hk' with e1 e2
        exact absurd e2 (by decide)
/-- A row of zones, all of them as they are. -/
def OwnZ (base : Nat) (w : World) (v : Value) (l : List Zn) : Prop := ∃ P : List (Zn × Value), P.map (·.1) = l ∧ RowZ base w v P ∧ ∀ p ∈ P, okZ p.1 ∧ AptZ base w p.2 p.1.b
theorem OwnZ.nil (base : Nat) (w : World) : OwnZ base w (.slice none 0 0) [] := ⟨[], rfl, World.ownsRow_nil w _ _ _, by simp⟩
theorem OwnZ.on {base : Nat} {w w' : World} {v : Value} {l : List Zn} (h : OwnZ base w v l) (q : Q w w') (hb : base ≤ w.heap.size) : OwnZ base w' v l := by
  obtain ⟨P, e, r, f⟩ := h
  exact ⟨P, e, r.on q, fun p hp => ⟨(f p hp).1, (f p hp).2.on q hb⟩⟩
theorem OwnZ.form {base : Nat} {w : World} {v : Value} {l : List Zn} (h : OwnZ base w v l) : ∃ A c, v = .slice A l.length c := by
  obtain ⟨P, rfl, r, -⟩ := h
  rw [List.length_map]
  rcases r.2 with ⟨rfl, h0⟩ | ⟨g, cap, cur, rfl, -⟩
  · exact ⟨none, 0, by rw [h0]⟩
  · exact ⟨_, _, rfl⟩
theorem OwnZ.lt {base : Nat} {w : World} {v : Value} {l : List Zn} (h : OwnZ base w v l) : ∀ k, v.ownBlock = some k → base ≤ k ∧ k < w.heap.size := by
  obtain ⟨P, rfl, r, -⟩ := h
  exact World.ownsRow.lt r
theorem OwnZ.zns {base : Nat} {w : World} {v : Value} {l : List Zn} (h : OwnZ base w v l) (hb : base ≤ w.heap.size) : Zns w w.heap.size v l := by
  obtain ⟨P, rfl, r, f⟩ := h
  have ok : ∀ x ∈ P.map (·.1), okZ x := by
    intro x hx
    obtain ⟨p, hp, rfl⟩ := List.mem_map.1 hx
    exact (f p hp).1
  rcases r.2 with ⟨rfl, h0⟩ | ⟨g, cap, cur, rfl, hbg, hg, h1, h2, h3, h4⟩
  · rw [List.length_eq_zero_iff.1 h0]; exact Zns.nil _ _
  · refine ⟨some ⟨g, 0, none⟩, cap, by rw [List.length_map], by rw [List.length_map]; exact h1, (by simp), ok, fun k hk => ⟨⟨g, 0, none⟩, rfl, lt_of_block hg, ?_⟩⟩
    rw [List.length_map] at hk
    have hc : ∀ j, j < 3 → w.cell? ((⟨g, 0, none⟩ : Addr).add (k * 3 + j)) = (zcl P[k])[j]? := by
      intro j hj
      have := flat_atZ P k hk hj
      obtain ⟨u, hu⟩ : ∃ u, (zcl P[k])[j]? = some u := ⟨_, List.getElem?_eq_getElem (by rw [show (zcl P[k]).length = 3 by rfl]; exact hj)⟩
      rw [hu] at this ⊢
      exact World.ownsRow.cells r (g := g) rfl _ _ this
    have ha : ∀ j, 0 < j → (⟨g, 0, none⟩ : Addr).add (k * 3 + j) = ⟨((⟨g, 0, none⟩ : Addr).add (k * 3)).block, ((⟨g, 0, none⟩ : Addr).add (k * 3)).off + j, none⟩ := by
      intro j hj
      rw [add_pos _ (by omega), add_block]
      unfold Addr.add
      split
      · rename_i h0; simp [h0]
      · simp [Nat.add_assoc]
    rw [List.getElem_map]
    refine ⟨?_, ?_, P[k].2, hc 0 (by omega), (f _ (List.getElem_mem hk)).2.blks hb⟩
    · rw [← ha 1 (by omega)]; exact hc 1 (by omega)
    · rw [← ha 2 (by omega)]; exact hc 2 (by omega)
theorem RowZ.onto {base k : Nat} {w2 : World} {v2 : Value} {P R : List (Zn × Value)} (h1 : w2.ownsRow base 45 3 v2 (P.length + k) (P.flatMap zcl ++ R.flatMap zcl)) (hk : k = R.length) : RowZ base w2 v2 (P ++ R) := by
  subst hk
  unfold RowZ
  rw [List.flatMap_append, List.length_append]
  exact h1
theorem cells_oneZ (w : World) (p : Zn × Value) (t : TypeId) : ∀ j u, (zcl p)[j]? = some u → (w.alloc (.cells #[p.2, .int .i64 p.1.firm, .bool p.1.full] t)).cell? ((⟨w.heap.size, 0, none⟩ : Addr).add j) = some u := by
  intro j u hj
  obtain ⟨hj2, rfl⟩ := List.getElem?_eq_some_iff.1 hj
  match j, hj2 with
  | 0, _ => simp [Addr.add, zcl]
  | 1, _ => simp [Addr.add, zcl]
  | 2, _ => simp [Addr.add, zcl]
theorem run_snoc_zn (w : World) (base g : Nat) (t ty : TypeId) (htt : Try.prog.underlying t = some (.slice 45)) (v : Value) (l : List Zn) (p : Zn × Value) {c : Nat} (hgg : ∀ j u, (zcl p)[j]? = some u → w.cell? ((⟨g, 0, none⟩ : Addr).add j) = some u) (h : OwnZ base w v l) (hp : okZ p.1 ∧ AptZ base w p.2 p.1.b)
    (hb : base ≤ w.heap.size) (hl : l.length ≤ 1000000) :
    ∃ v' w', (Builtin.append_ #[t, t] ty #[v, .slice (some ⟨g, 0, none⟩) 1 c]).run Try.prog w = .ok v' w' ∧ OwnZ base w' v' (l ++ [p.1]) ∧ w.grownBy w' v.ownBlock := by
  obtain ⟨i0, hi0, hz0, hz1, hz2⟩ := info_parts info_zn
  obtain ⟨P, hP, r, f⟩ := h
  have hPl : P.length = l.length := by rw [← hP, List.length_map]
  obtain ⟨v', w', h1, h2, h3, -⟩ := run_append_own (P := Try.prog) w base t ty 45 i0 (.agg #[.slice none 0 0, .int .i64 0, .bool false]) 3 40 htt hi0 hz0 hz1 hz2 rfl (by decide) v P.length (P.flatMap zcl) r ⟨g, 0, none⟩ 1 c (zcl p) rfl hgg (zcl_one hp.2.shape) (by unfold maxLen; omega) (by omega) hb
  refine ⟨v', w', h1, ⟨P ++ [p], by rw [List.map_append, hP]; rfl, RowZ.onto (R := [p]) (by simpa using h2) rfl, fun q hq => ?_⟩, h3⟩
  rcases List.mem_append.1 hq with hq | hq
  · exact ⟨(f q hq).1, (f q hq).2.grown r h3 hb⟩
  · obtain rfl : q = p := by simpa using hq
    exact ⟨hp.1, hp.2.grown r h3 hb⟩
theorem wpList_snoc_zn {ops : Array Oper} {rest : List Oper} {o : Oper} {a : Act} {Q : Exit → Act → World → Prop} (w : World) (hgd : o.guard = none) (s x : Operand) (t : TypeId)
    (htt : Try.prog.underlying t = some (.slice 45)) (ho : o.op = .call { callee := .builtin .append, args := #[s, x], argTypes := #[t, t] })
    (base g : Nat) (v : Value) (l : List Zn) (p : Zn × Value) {c : Nat} (hs : a.eval s = v) (hx : a.eval x = .slice (some ⟨g, 0, none⟩) 1 c) (hgg : ∀ j u, (zcl p)[j]? = some u → w.cell? ((⟨g, 0, none⟩ : Addr).add j) = some u) (h : OwnZ base w v l) (hp : okZ p.1 ∧ AptZ base w p.2 p.1.b)
    (hb : base ≤ w.heap.size) (hl : l.length ≤ 1000000)
    (k : ∀ v' w', OwnZ base w' v' (l ++ [p.1]) → w.grownBy w' v.ownBlock → wpList Try.prog ops Q rest (a.put o.dst v') w') : wpList Try.prog ops Q (o :: rest) a w := by
  refine wpList_plain hgd fun K hK => ?_
  obtain ⟨v', w', h1, h2, h3⟩ := run_snoc_zn (c := c) w base g t o.type htt v l p hgg h hp hb hl
  unfold Oper.wp execOp
  simp only [ho, resolve, invoke, builtin, Sem.run_bind, Sem.run_pure, Result.andThen_ok, List.map_toArray, List.map_cons, List.map_nil, hs, hx, h1]
  exact hK _ _ (k v' w' h2 h3)
/-- A device, as a value, and as its cells. -/
def dvV (d : Dv) (u : Value) : Value := .agg #[u, .int .i64 d.size, .int .i64 d.mo, .int .i64 d.fuel, .bool d.off, .int .i64 d.bad]
def okI64 (n : Int) : Prop := -9223372036854775808 ≤ n ∧ n ≤ 9223372036854775807
def okD (d : Dv) : Prop := d.zs.length ≤ maxLen ∧ okI64 d.size ∧ okI64 d.mo ∧ okI64 d.fuel ∧ okI64 d.bad
theorem blks_cell {H : Type} {enc : TypeId × Value → H} {W : World} {n : Nat} {v : Value} {y : DataW H × List MemPlace}
    (hf : DataW.trod enc Try.prog W 0 (fun _ => true) true n 31 [v] = some y) : ∃ l : List ByteArray, Blks W W.heap.size v l ∧ l.length ≤ maxLen := by
  rcases Deep.open_slice Try.underlying31 hf with ⟨hcs, hx⟩ | ⟨a, len', cap', m, n, D, Pl, hcs, _, hl, hm, hmm, hx, hel⟩
  · simp at hcs
    subst hcs
    exact ⟨[], Blks.nil _ _, by simp⟩
  · simp at hcs
    subst hcs
    have c0 : Try.prog.cellsOf 9 = 1 := by kernel_rfl
    have each : ∀ i, i < len' → ∃ x : ByteArray, W.cell? (a.add i) = some (.string x) := by
      intro i hi
      obtain ⟨cs', h1, h2⟩ := hel i (by rw [hmm]; simp; omega)
      rw [c0] at h1
      obtain ⟨-, hlen1, hcell⟩ := World.cells?_some h1
      obtain ⟨s, e, -, ws⟩ := DataW.trod_string Try.underlying9 h2
      subst e
      refine ⟨s, ?_⟩
      have h0 : (a.add i).add 0 = a.add i := by simp [Addr.add]
      have := hcell 0 (by omega)
      rw [Nat.mul_one, h0] at this
      exact this
    obtain ⟨l, hlen, hp⟩ := list_of len' each
    refine ⟨l, ⟨some a, cap', by rw [hlen], by omega, (by simp), fun k hk => ⟨a, rfl, ?_, hp k hk⟩⟩, by omega⟩
    have := World.block_lt_of_cell? W _ (hp k hk)
    rw [add_block] at this; exact this
theorem trod_zn {H : Type} {enc : TypeId × Value → H} {W : World} {n : Nat} {cs : List Value} {y : DataW H × List MemPlace} (hl : cs.length = 3)
    (hf : DataW.trod enc Try.prog W 0 (fun _ => true) true n 45 cs = some y) :
    ∃ (z : Zn) (u : Value), cs = [u, .int .i64 z.firm, .bool z.full] ∧ okZ z ∧ Blks W W.heap.size u z.b := by
  obtain ⟨v0, v1, v2, rfl⟩ : ∃ a b c, cs = [a, b, c] := by
    match cs, hl with
    | [a, b, c], _ => exact ⟨a, b, c, rfl⟩
  obtain ⟨xs, n', _, _, hl0, hlen, hg⟩ := DataW.trod_struct Try.underlying45 hf
  have hlen3 : xs.length = 3 := hlen
  have c0 : Try.prog.cellsOf 31 = 1 := by kernel_rfl
  have c1 : Try.prog.cellsOf 3 = 1 := by kernel_rfl
  have c2 : Try.prog.cellsOf 4 = 1 := by kernel_rfl
  have g0 := hg 0 _ rfl
  have g1 := hg 1 _ rfl
  have g2 := hg 2 _ rfl
  rw [List.getElem?_eq_getElem (by omega)] at g0 g1 g2
  simp [c0, c1, c2] at g0 g1 g2
  obtain ⟨b, hb, mb⟩ := blks_cell g0
  obtain ⟨s1, e1, -, w1⟩ := DataW.trod_int Try.underlying3 g1
  obtain ⟨s2, e2, -⟩ := DataW.trod_bool Try.underlying4 g2
  simp at e1 e2
  subst e1 e2
  exact ⟨⟨b, s1, s2⟩, v0, rfl, ⟨mb, (wf64 w1).1, (wf64 w1).2⟩, hb⟩
theorem zns_cell {H : Type} {enc : TypeId × Value → H} {W : World} {n : Nat} {v : Value} {y : DataW H × List MemPlace}
    (hf : DataW.trod enc Try.prog W 0 (fun _ => true) true n 22 [v] = some y) : ∃ l : List Zn, Zns W W.heap.size v l ∧ l.length ≤ maxLen := by
  rcases Deep.open_slice Try.underlying22 hf with ⟨hcs, hx⟩ | ⟨a, len', cap', m, n, D, Pl, hcs, _, hl, hm, hmm, hx, hel⟩
  · simp at hcs
    subst hcs
    exact ⟨[], Zns.nil _ _, by simp⟩
  · simp at hcs
    subst hcs
    have each : ∀ i, i < len' → ∃ x : Zn, okZ x ∧ AtZ W W.heap.size (a.add (i * 3)) x := by
      intro i hi
      obtain ⟨cs', h1, h2⟩ := hel i (by rw [hmm]; simp; omega)
      rw [cells_zn] at h1
      obtain ⟨-, hlen3, hcell⟩ := World.cells?_some h1
      obtain ⟨z, u, rfl, ok, hu⟩ := trod_zn hlen3 h2
      exact ⟨z, ok, (congrArg W.cell? (add_pos _ (by omega : 0 < 1)).symm).trans (hcell 1 (by omega)), (congrArg W.cell? (add_pos _ (by omega : 0 < 2)).symm).trans (hcell 2 (by omega)), u, hcell 0 (by omega), hu⟩
    obtain ⟨l, hlen, hp⟩ := list_of len' each
    refine ⟨l, ⟨some a, cap', by rw [hlen], by omega, (by simp), ?_, fun k hk => ⟨a, rfl, ?_, (hp k hk).2⟩⟩, by omega⟩
    · intro x hx
      obtain ⟨k, hk, rfl⟩ := List.getElem_of_mem hx
      exact (hp k hk).1
    · have := World.block_lt_of_cell? W _ (hp k hk).2.1
      simpa [add_block] using this
end Go.Proofs.Yteoondmakdghhaa

namespace Go.Proofs.Yteoondmakdghhaa
set_option maxRecDepth 100000
open Go.ChangeShapes Go.WideShapes Go.ChangeAt Go.RowKit
set_option linter.unusedVariables false
set_option linter.unusedSimpArgs false
set_option maxRecDepth 100000
def SameTo (a b : List ByteArray) (k : Nat) : Prop := a.take k = b.take k
theorem same_step {a b : List ByteArray} {k : Nat} (ha : k < a.length) (hb : k < b.length) (h : SameTo a b k) (e : a[k] = b[k]) : SameTo a b (k + 1) := by
  unfold SameTo at h ⊢
  rw [List.take_succ_eq_append_getElem ha, List.take_succ_eq_append_getElem hb, h, e]
theorem same_end {a b : List ByteArray} (h : a.length = b.length) (q : SameTo a b a.length) : decide (a = b) = true := by
  unfold SameTo at q
  rw [List.take_length] at q
  conv at q => rhs; rw [h, List.take_length]
  simp [q]
theorem same_not {a b : List ByteArray} {k : Nat} (ha : k < a.length) (hb : k < b.length) (e : ¬ a[k] = b[k]) : decide (a = b) = false := by
  have : ¬ a = b := by rintro rfl; exact e rfl
  simp [this]
set_option maxHeartbeats 1000000 in
theorem same_any (a b : List ByteArray) (va vb : Value) (w : World) (hl : a.length ≤ 1000000) (hl2 : b.length ≤ 1000000) (ha : Txts w w.heap.size va a) (hb : Txts w w.heap.size vb b) :
    Calls Try.prog 19 #[va, vb] w fun e w' => e = .returned (.bool (decide (a = b))) ∧ Q w w' := by
  obtain ⟨A, c, rfl, hca⟩ := ha
  obtain ⟨B, d, rfl, hcb⟩ := hb
  have HA := Lib.hid hca; have HB := Lib.hid hcb
  clear hca hcb
  by_cases hlen : a.length = b.length
  · have HL := Lib.hid hlen
    obtain ⟨n, hn⟩ : ∃ n, n = a.length := ⟨_, rfl⟩
    have hm : n = b.length := hn.trans hlen
    rw [← hn] at hl
    rw [← hm] at hl2
    rw [← hn, ← hm]
    have HN := Lib.hid hn; have HM := Lib.hid hm
    clear hn hm hlen
    go_enter Try.func19, Try.ntmps19
    go_wp2_with fail
    go_loopw [5] (fun i wr => ∃ k : Nat, k ≤ n ∧ i = .int .i64 k ∧ Hid (SameTo a b k) ∧ Q w wr) (fun i _ => n - (intOf i).toNat)
    case atStart => exact ⟨0, Nat.zero_le _, rfl, Lib.hid (by simp [SameTo]), Q.refl _⟩
    case round =>
      obtain ⟨k, hk, rfl, HS, q⟩ := hrel
      by_cases hlt : k < n
      · have pa : k < a.length := by rw [← HN.out]; exact hlt
        have pb : k < b.length := by rw [← HM.out]; exact hlt
        obtain ⟨x, rfl, hx1, hx2⟩ := HA.out k pa
        obtain ⟨y, rfl, hy1, hy2⟩ := HB.out k pb
        have cx := (Below.cell q (p := x.add k) (by rw [add_block]; exact hx1)).trans hx2
        have cy := (Below.cell q (p := y.add k) (by rw [add_block]; exact hy1)).trans hy2
        clear hx2 hy2
        obtain ⟨s, hs⟩ : ∃ s, s = a[k] := ⟨_, rfl⟩
        obtain ⟨t, ht⟩ : ∃ t, t = b[k] := ⟨_, rfl⟩
        rw [← hs] at cx
        rw [← ht] at cy
        have H1 := Lib.hid hs; have H2 := Lib.hid ht
        clear hs ht
        have he := eq_texts s t
        by_cases hst : s = t
        · have h1 : (s.toList == t.toList) = true := by rw [he]; simpa using hst
          have HE := Lib.hid hst
          clear he hst
          go_wp2_with fail
          go_region
          go_wp2
          go_roundw
          case rel => exact ⟨k + 1, by omega, by go_num, Lib.hid (same_step pa pb HS.out (by rw [← H1.out, ← H2.out]; exact HE.out)), q.drew⟩
          case measure => simp [intOf]; omega
        · have h1 : (s.toList == t.toList) = false := by rw [he]; simpa using hst
          clear he
          have HV := Lib.hid (same_not pa pb (by rw [← H1.out, ← H2.out]; exact hst))
          go_wp2_with fail
          go_region
          go_wp2
          go_ret
          exact ⟨by rw [HV.out]; rfl, q.drew⟩
      · obtain rfl : k = n := by omega
        have HV := Lib.hid (same_end HL.out (by rw [← HN.out]; exact HS.out))
        go_wp2
        go_ret
        exact ⟨by rw [HV.out]; rfl, q⟩
  · have HV : Hid (decide (a = b) = false) := Lib.hid (by
      have : ¬ a = b := by rintro rfl; exact hlen rfl
      simp [this])
    go_enter Try.func19, Try.ntmps19
    go_wp2
    go_ret
    exact ⟨by rw [HV.out]; rfl, Q.refl _⟩
theorem openN_take (l : List Zn) (i : Nat) (h : i < l.length) : openN (l.take (i + 1)) = openN (l.take i) + (if isOpen l[i] = true then 1 else 0) := by
  unfold openN
  rw [List.take_succ_eq_append_getElem h, List.filter_append, List.length_append]
  by_cases q : isOpen l[i] = true <;> simp [q]
set_option maxHeartbeats 4000000 in
theorem rOpen_any (d : Dv) (u : Value) (w : World) (hl : d.zs.length ≤ 100000) (ht : Zns w w.heap.size u d.zs) :
    Calls Try.prog 17 #[dvV d u] w fun e w' => e = .returned (.int .i64 (openN d.zs : Nat)) ∧ Q w w' := by
  obtain ⟨A0, c0, rfl⟩ := ht.form
  have HT := Lib.hid ht
  clear ht
  obtain ⟨zs, size, mo, fuel, off, bad⟩ := d
  rw [dvV]
  simp only at HT hl ⊢
  have bx := Bx.new w 24 #[.slice A0 zs.length c0, .int .i64 size, .int .i64 mo, .int .i64 fuel, .bool off, .int .i64 bad]
  have q0 := (Q.refl w).alloc (.cells #[.slice A0 zs.length c0, .int .i64 size, .int .i64 mo, .int .i64 fuel, .bool off, .int .i64 bad] 24)
  obtain ⟨W0, hW0⟩ : ∃ z, z = w.alloc (.cells #[.slice A0 zs.length c0, .int .i64 size, .int .i64 mo, .int .i64 fuel, .bool off, .int .i64 bad] 24) := ⟨_, rfl⟩
  rw [← hW0] at bx q0
  have BX := Lib.hid bx
  have Q0 := Lib.hid q0
  clear bx q0
  go_enter Try.func17, Try.ntmps17
  go_wp2_with fail
  rw [← hW0]
  clear hW0
  go_loopw [3, 4] (fun N I wr => ∃ i m : Nat, i ≤ zs.length ∧ I = .int .i64 i ∧ N = .int .i64 m ∧ Hid (m = openN (zs.take i)) ∧ m ≤ i ∧ Q W0 wr) (fun _ I _ => zs.length - (intOf I).toNat)
  case atStart => exact ⟨0, 0, Nat.zero_le _, rfl, rfl, Lib.hid rfl, Nat.le_refl _, Q.refl _⟩
  case round =>
    obtain ⟨i, m, hil, rfl, rfl, HM, hmi, q⟩ := hrel
    have b0 : wr.cell? ⟨w.heap.size, 0, none⟩ = some (.slice A0 zs.length c0) := (BX.out.on q).cell 0
    by_cases hlt : i < zs.length
    · obtain ⟨a, c1, A1, n1, e1, ha, -, hat⟩ := HT.out.pick i hlt
      injection e1 with e1 e2 e3
      subst e1 e3
      obtain ⟨z0, z1, z2, -⟩ := hat wr (Q0.out.trans q)
      have HS := Lib.hid (openN_take zs i hlt)
      obtain ⟨y, hy⟩ : ∃ y, y = zs[i] := ⟨_, rfl⟩
      rw [← hy] at z0 z1 z2 HS
      clear hat hy
      have hilt : (i : Int) < (zs.length : Int) := by omega
      by_cases hp : 0 < y.b.length
      · have hp' : (0 : Int) < (y.b.length : Int) := by omega
        cases hf : y.full with
        | true =>
          have HN : Hid (m = openN (zs.take (i + 1))) := Lib.hid (by rw [HS.out, ← HM.out]; simp [isOpen, hf])
          rw [hf] at z2
          clear hf hp HS
          go_wp2_with fail
          go_roundw
          case rel => exact ⟨i + 1, m, by omega, by go_num, rfl, HN, by omega, q⟩
          case measure => simp [intOf]; omega
        | false =>
          have HN : Hid (m + 1 = openN (zs.take (i + 1))) := Lib.hid (by rw [HS.out, ← HM.out]; simp [isOpen, hf, hp])
          rw [hf] at z2
          clear hf hp HS
          go_wp2_with fail
          go_roundw
          case rel => exact ⟨i + 1, m + 1, by omega, by go_num, by go_num, HN, by omega, q⟩
          case measure => simp [intOf]; omega
      · have hp' : ¬ (0 : Int) < (y.b.length : Int) := by omega
        have HN : Hid (m = openN (zs.take (i + 1))) := Lib.hid (by rw [HS.out, ← HM.out]; simp [isOpen, hp])
        clear hp HS
        go_wp2_with fail
        go_roundw
        case rel => exact ⟨i + 1, m, by omega, by go_num, rfl, HN, by omega, q⟩
        case measure => simp [intOf]; omega
    · have h2 : ¬ (i : Int) < (zs.length : Int) := by omega
      have HN : Hid (m = openN zs) := Lib.hid (by rw [HM.out, List.take_of_length_le (by omega)])
      go_wp2_with fail
      go_ret
      exact ⟨by rw [← HN.out]; rfl, Q0.out.trans q⟩
end Go.Proofs.Yteoondmakdghhaa

