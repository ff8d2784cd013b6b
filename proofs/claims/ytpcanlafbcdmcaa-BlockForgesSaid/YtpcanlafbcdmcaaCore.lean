/-
  Small words shared by the proofs of this seat: worlds that only grow, texts as lists of octets, slices of texts.
-/
import Derived.Test.YtpcanlafbcdmcaaRows
import Derived.WalkKit
import Derived.ProofKit
import Derived.WalkSpells
import Derived.Below
import Derived.Lib.Hide
import Derived.Deep.QuietTactic
import Derived.BigQuiet
import Derived.RegionTactic
import Derived.WalkSmall
import Derived.OwnWalk
import Derived.OneCell
import Derived.Laws.OwnMore
import Derived.Laws.EntriesVeiled
import Derived.Laws.IdiomStrings
import Derived.Lib.AppendStr
import Derived.Lib.UnsafeStr
import Derived.Deep.AppendLies
namespace Go.Proofs.Ytpcanlafbcdmcaa
set_option maxRecDepth 100000
open Go.ChangeShapes Go.WideShapes Go.ChangeAt Go.RowKit
/-- What the walk puts in order behind each operation that is taken. -/
theorem PS {α : Type} : (∀ (l : List α) (i : Nat) (h : i < l.toArray.size), l.toArray[i]'h = l[i]'(by simpa using h)) ∧ (∀ (a : α) (l : List α) (h : 0 < (a :: l).length), (a :: l)[0]'h = a) ∧ (∀ (a : α) (l : List α) (i : Nat) (h : i + 1 < (a :: l).length), (a :: l)[i + 1]'h = l[i]'(Nat.lt_of_succ_lt_succ h)) ∧ (∀ (l : List α) (i : Nat) (a : α), l.toArray.setIfInBounds i a = (l.set i a).toArray) ∧ (∀ (x y : α) (l : List α), (x :: l).set 0 y = y :: l) ∧ (∀ (x y : α) (l : List α) (i : Nat), (x :: l).set (i + 1) y = x :: l.set i y) :=
  ⟨fun _ _ _ => List.getElem_toArray _, fun _ _ _ => rfl, fun _ _ _ _ => rfl, fun _ _ _ => List.setIfInBounds_toArray .., fun _ _ _ => rfl, fun _ _ _ _ => rfl⟩


/-- Nothing that was there has changed; memory may have grown. -/
def Q (w w' : World) : Prop := Below w.heap.size w w'
theorem Q.refl (w : World) : Q w w := Below.refl _ _
theorem Q.trans {a b c : World} (h : Q a b) (k : Q b c) : Q a c := Below.trans h (Below.mono k h.size)
theorem Q.drew {a b : World} (h : Q a b) : Q a b.drew := Below.drew h
theorem Q.alloc {a b : World} (h : Q a b) (o : Obj) : Q a (b.alloc o) := Below.alloc h h.size o
theorem Q.drewN {a b : World} (h : Q a b) (n : Nat) : Q a (b.drewN n) := below_drewN h n
theorem Q.size {a b : World} (h : Q a b) : a.heap.size ≤ b.heap.size := Below.size h

theorem ret_str {a b : ByteArray} (h : a = b) : Ending.returned (.string a) = .returned (.string b) := by rw [h]
theorem ret_bool {a b : Bool} (h : a = b) : Ending.returned (.bool a) = .returned (.bool b) := by rw [h]

/-- A text's octets, and the text of octets. -/
def bl (s : ByteArray) : List UInt8 := s.data.toList
def mk (l : List UInt8) : ByteArray := ⟨l.toArray⟩
theorem bl_mk (l : List UInt8) : bl (mk l) = l := rfl
theorem mk_bl (s : ByteArray) : mk (bl s) = s := rfl
theorem bl_length (s : ByteArray) : (bl s).length = s.size := Array.length_toList
theorem mk_size (l : List UInt8) : (mk l).size = l.length := by rw [← bl_length, bl_mk]
theorem bl_inj {a b : ByteArray} (h : bl a = bl b) : a = b := by rw [← mk_bl a, ← mk_bl b, h]
theorem bl_append (a b : ByteArray) : bl (a ++ b) = bl a ++ bl b := by simp [bl]
theorem bl_extract (s : ByteArray) (i j : Nat) : bl (s.extract i j) = ((bl s).drop i).take (j - i) := by
  simp [bl]
theorem toList_bl (s : ByteArray) : s.toList = bl s := ByteArray.toList_eq s
theorem bl_get (s : ByteArray) (k : Nat) (h : k < s.size) : (bl s)[k]'(by rw [bl_length]; exact h) = s[k] := rfl
theorem cut_cut (s : ByteArray) {a b c d : Nat} : (s.extract a b).extract c d = s.extract (a + c) (min (a + d) b) := by
  apply bl_inj
  simp only [bl_extract, List.drop_take, List.drop_drop, List.take_take]
  rw [show min (d - c) (b - a - c) = min (a + d) b - (a + c) by omega]
theorem size_cut (s : ByteArray) {a b : Nat} (h : b ≤ s.size) : (s.extract a b).size = b - a := by
  rw [← bl_length, bl_extract, List.length_take, List.length_drop, bl_length]; omega
theorem eq_texts (a b : ByteArray) : (a.toList == b.toList) = decide (a = b) := by
  rw [toList_bl, toList_bl]
  by_cases h : a = b
  · subst h; simp
  · have : ¬ bl a = bl b := fun e => h (bl_inj e)
    simp [h, this]
theorem nil_text (a : ByteArray) : a.toList = [] ↔ a.size = 0 := by
  rw [toList_bl, ← bl_length]; exact List.length_eq_zero_iff.symm
theorem text_nil {a : ByteArray} (h : a.size = 0) : a = ⟨#[]⟩ := bl_inj (List.length_eq_zero_iff.1 (by rw [bl_length]; exact h))

/-- A slice whose elements are these texts; all of it lies below block B. -/
def Txts (w : World) (B : Nat) (v : Value) (l : List ByteArray) : Prop :=
  ∃ A c, v = .slice A l.length c ∧ ∀ k (h : k < l.length), ∃ a : Addr, A = some a ∧ a.block < B ∧ w.cell? (a.add k) = some (.string l[k])
theorem add_block (a : Addr) (n : Nat) : (a.add n).block = a.block := by unfold Addr.add; split <;> rfl
theorem Txts.keep {w w' : World} {B : Nat} {v : Value} {l : List ByteArray} (h : Txts w B v l) (k : ∀ p : Addr, p.block < B → w'.cell? p = w.cell? p) : Txts w' B v l := by
  obtain ⟨A, c, e, f⟩ := h
  refine ⟨A, c, e, fun i hi => ?_⟩
  obtain ⟨a, e1, e2, e3⟩ := f i hi
  exact ⟨a, e1, e2, (k _ (by rw [add_block]; exact e2)).trans e3⟩
theorem Txts.below {w w' : World} {B : Nat} {v : Value} {l : List ByteArray} (h : Txts w B v l) (k : Below B w w') : Txts w' B v l := h.keep fun _ hp => k.cell hp
theorem Txts.more {w : World} {B B' : Nat} {v : Value} {l : List ByteArray} (h : Txts w B v l) (k : B ≤ B') : Txts w B' v l := by
  obtain ⟨A, c, e, f⟩ := h
  refine ⟨A, c, e, fun i hi => ?_⟩
  obtain ⟨a, e1, e2, e3⟩ := f i hi
  exact ⟨a, e1, by omega, e3⟩
theorem Txts.on {w w' : World} {v : Value} {l : List ByteArray} (h : Txts w w.heap.size v l) (k : Q w w') : Txts w' w'.heap.size v l := (h.below k).more k.size
theorem Txts.nil (w : World) (B : Nat) : Txts w B (.slice none 0 0) [] := ⟨none, 0, rfl, fun k h => absurd h (by simp)⟩
/-- A row of texts that the call itself has made. -/
theorem Txts.own {w : World} {base e : Nat} {v : Value} {n : Nat} {l : List ByteArray} (h : w.ownsRow base e 1 v n (l.map Value.string)) : Txts w w.heap.size v l := by
  have hn : n = l.length := by have := h.1; simpa using this.symm
  subst hn
  rcases h.2 with ⟨rfl, h0⟩ | ⟨g, cap, cur, rfl, hb, hg, h1, h2, h3, h4⟩
  · rw [List.length_eq_zero_iff.1 h0]; exact Txts.nil _ _
  · refine ⟨_, _, rfl, fun k hk => ⟨⟨g, 0, none⟩, rfl, lt_of_block hg, ?_⟩⟩
    exact h.cells (g := g) rfl k _ (by simp [hk])
end Go.Proofs.Ytpcanlafbcdmcaa
