/-
  What is read of an index: contracts of At, Many, Octets, Count, place, Get.
-/
import Derived.Test.YtipipjpdlblifaaELaw
import Derived.Shelf.Abstract
namespace Go.Proofs.Ytipipjpdlblifaa
open Go.ChangeShapes Go.WideShapes Go.ChangeAt Go.RowKit
set_option linter.unusedVariables false
set_option linter.unusedSimpArgs false

/-- One entry of a slice, as it lies in every later world. -/
theorem Ents.pick {w : World} {v : Value} {l : List Ent} (h : Ents w w.heap.size v l) (i : Nat) (hi : i < l.length) :
    ∃ (a : Addr) (c : Nat), v = .slice (some a) l.length c ∧ a.block < w.heap.size ∧ ∃ A2 c2, Vers w w.heap.size (.slice A2 l[i].L.length c2) l[i].L ∧
      ∀ d, Q w d → d.cell? (a.add (i * 2)) = some (.string l[i].key) ∧ d.cell? ⟨(a.add (i * 2)).block, (a.add (i * 2)).off + 1, none⟩ = some (.slice A2 l[i].L.length c2) := by
  obtain ⟨A, c, rfl, -, -, -, f⟩ := h
  obtain ⟨a, rfl, ha, h1, u, h2, h3⟩ := f i hi
  obtain ⟨A2, c2, rfl⟩ := h3.form
  refine ⟨a, c, rfl, ha, A2, c2, h3, fun d q => ⟨?_, ?_⟩⟩
  · exact (q.cell (p := a.add (i * 2)) (by rw [add_block]; exact ha)).trans h1
  · exact (q.cell (p := ⟨(a.add (i * 2)).block, (a.add (i * 2)).off + 1, none⟩) (by show (a.add (i * 2)).block < _; rw [add_block]; exact ha)).trans h2

/-- How many keys are less than one. -/
def ltB (a b : ByteArray) : Bool := Op.bytesLess a.toList b.toList
def atE (l : List Ent) (key : ByteArray) : Nat := (l.filter fun e => ltB e.key key).length
theorem atE_le (l : List Ent) (key : ByteArray) : atE l key ≤ l.length := List.length_filter_le ..
theorem atE_yes {l : List Ent} {i : Nat} {key : ByteArray} (h : i < l.length) (k : ltB l[i].key key = true) : atE (l.take (i + 1)) key = atE (l.take i) key + 1 := by
  rw [List.take_succ_eq_append_getElem h, atE, List.filter_append, List.filter_cons_of_pos (by simpa using k)]; simp [atE]
theorem atE_no {l : List Ent} {i : Nat} {key : ByteArray} (h : i < l.length) (k : ltB l[i].key key = false) : atE (l.take (i + 1)) key = atE (l.take i) key := by
  rw [List.take_succ_eq_append_getElem h, atE, List.filter_append, List.filter_cons_of_neg (by simp [k])]; simp [atE]

/-- How many versions there are, and how many octets they have. -/
def octV (l : List Ver) : Nat := (l.map (fun x => x.data.size)).sum
def manyE (l : List Ent) : Nat := (l.map (fun e => e.L.length)).sum
def octE (l : List Ent) : Nat := (l.map (fun e => octV e.L)).sum
/-- What is looked at is not too much for a number. -/
def Small (l : List Ent) : Prop := l.length ≤ 1000 ∧ ∀ e ∈ l, e.key.size ≤ 1000 ∧ e.L.length ≤ 1000 ∧ ∀ x ∈ e.L, x.data.size ≤ 100000
theorem sum_le {α : Type} {f : α → Nat} {l : List α} {B : Nat} (h : ∀ x ∈ l, f x ≤ B) : (l.map f).sum ≤ l.length * B := by
  induction l with
  | nil => simp
  | cons x r ih =>
    have h1 := h x (by simp)
    have h2 := ih fun y hy => h y (by simp [hy])
    simp only [List.map_cons, List.sum_cons, List.length_cons, Nat.add_mul, Nat.one_mul]
    omega
theorem sum_take {α : Type} {f : α → Nat} {l : List α} {i : Nat} (h : i < l.length) : ((l.take (i + 1)).map f).sum = ((l.take i).map f).sum + f l[i] := by
  rw [List.take_succ_eq_append_getElem h, List.map_append, List.sum_append]; simp
theorem octV_le {l : List Ver} (hl : l.length ≤ 1000) (h : ∀ x ∈ l, x.data.size ≤ 100000) (i : Nat) : octV (l.take i) ≤ 100000000 := by
  have := sum_le (f := fun x : Ver => x.data.size) (l := l.take i) (B := 100000) (fun x hx => h x (List.mem_of_mem_take hx))
  have k : (l.take i).length ≤ 1000 := by rw [List.length_take]; omega
  have := Nat.mul_le_mul_right 100000 k
  unfold octV; omega
theorem manyE_le {l : List Ent} (h : Small l) (i : Nat) : manyE (l.take i) ≤ 1000000 := by
  have := sum_le (f := fun e : Ent => e.L.length) (l := l.take i) (B := 1000) (fun x hx => (h.2 x (List.mem_of_mem_take hx)).2.1)
  have k : (l.take i).length ≤ 1000 := by rw [List.length_take]; have := h.1; omega
  have := Nat.mul_le_mul_right 1000 k
  unfold manyE; omega
theorem octE_le {l : List Ent} (h : Small l) (i : Nat) : octE (l.take i) ≤ 100000000000 := by
  have := sum_le (f := fun e : Ent => octV e.L) (l := l.take i) (B := 100000000) (fun x hx => by
    obtain ⟨-, k1, k2⟩ := h.2 x (List.mem_of_mem_take hx)
    have := octV_le k1 k2 x.L.length
    rwa [List.take_length] at this)
  have k : (l.take i).length ≤ 1000 := by rw [List.length_take]; have := h.1; omega
  have := Nat.mul_le_mul_right 100000000 k
  unfold octE; omega
set_option maxHeartbeats 2000000 in
theorem rmany_any (l : List Ent) (v : Value) (w : World) (hs : Small l) (ht : Ents w w.heap.size v l) :
    Calls Try.prog 23 #[v] w fun e w' => e = .returned (.int .i64 (manyE l : Nat)) ∧ Q w w' := by
  have HT := Lib.hid ht
  have HS := Lib.hid hs
  have hl := hs.1
  obtain ⟨A, c, rfl⟩ := ht.form
  clear ht hs
  go_enter Try.func23, Try.ntmps23
  go_wp2_with fail
  go_loopw [3, 4] (fun N I wr => ∃ i n : Nat, i ≤ l.length ∧ I = .int .i64 i ∧ N = .int .i64 n ∧ Hid (n = manyE (l.take i)) ∧ Q w wr) (fun _ I _ => l.length - (intOf I).toNat)
  case atStart => exact ⟨0, 0, Nat.zero_le _, rfl, rfl, Lib.hid (by simp [manyE]), Q.refl _⟩
  case round =>
    obtain ⟨i, n, hil, rfl, rfl, HN, q⟩ := hrel
    by_cases hlt : i < l.length
    · obtain ⟨a, c', hv, ha, A2, c2, -, hat⟩ := HT.out.pick i hlt
      injection hv with e1 e2 e3
      subst e1 e3
      obtain ⟨d0, d1⟩ := hat _ q
      have hn : n ≤ 1000000 := by have := HN.out; have := manyE_le HS.out i; omega
      have HN2 : Hid (n + l[i].L.length = manyE (l.take (i + 1))) := Lib.hid (by rw [HN.out]; exact (sum_take (f := fun e : Ent => e.L.length) hlt).symm)
      have hx2 := (HS.out.2 _ (List.getElem_mem hlt)).2.1
      obtain ⟨x, hx⟩ : ∃ x, x = l[i].L.length := ⟨_, rfl⟩
      rw [← hx] at d1 HN2 hx2
      clear hat hx d0
      go_wp2
      go_roundw
      case rel => exact ⟨i + 1, n + x, by omega, by go_num, by go_num, HN2, q⟩
      case measure => simp [intOf]; omega
    · have HV : Hid (n = manyE l) := Lib.hid (by have := HN.out; rwa [List.take_of_length_le (by omega)] at this)
      go_wp2
      go_ret
      exact ⟨by rw [HV.out]; rfl, q⟩
theorem octE_step {l : List Ent} {i : Nat} (h : i < l.length) : octE (l.take (i + 1)) = octE (l.take i) + octV l[i].L := sum_take (f := fun e : Ent => octV e.L) h
theorem octV_step {l : List Ver} {k : Nat} (h : k < l.length) : octV (l.take (k + 1)) = octV (l.take k) + l[k].data.size := sum_take (f := fun e : Ver => e.data.size) h
/-- One version of a slice, as it lies in every later world. -/
theorem Vers.pick {w : World} {A : Option Addr} {n c : Nat} {l : List Ver} (h : Vers w w.heap.size (.slice A n c) l) (i : Nat) (hi : i < l.length) :
    ∃ a : Addr, A = some a ∧ a.block < w.heap.size ∧ ∀ d, Q w d → At d (a.add (i * 4)) l[i] := by
  obtain ⟨A', c', e, -, -, -, f⟩ := h
  injection e with e1 e2 e3
  obtain ⟨a, rfl, ha, hat⟩ := f i hi
  exact ⟨a, e1, ha, fun d q => hat.keep (by rw [add_block]; exact ha) fun _ hp => q.cell hp⟩
theorem manyE_step {l : List Ent} {i : Nat} (h : i < l.length) : manyE (l.take (i + 1)) = manyE (l.take i) + l[i].L.length := sum_take (f := fun e : Ent => e.L.length) h
end Go.Proofs.Ytipipjpdlblifaa
