/-
  apart; the plain facts of an index in order.
-/
import Derived.Test.YtipipjpdlblifaaEPut
namespace Go.Proofs.Ytipipjpdlblifaa
open Go.ChangeShapes Go.WideShapes Go.ChangeAt Go.RowKit
set_option linter.unusedVariables false
set_option linter.unusedSimpArgs false

theorem set_flat (P : List (Ent × Value)) (k : Nat) (h : k < P.length) (u : Value) : (P.set k (P[k].1, u)).flatMap pcells = (P.flatMap pcells).set (k * 2 + 1) u := by
  induction P generalizing k with
  | nil => simp at h
  | cons x r ih =>
    cases k with
    | zero => simp [pcells]
    | succ k =>
      have hk : k < r.length := by simpa using h
      rw [List.set_cons_succ, List.flatMap_cons, List.flatMap_cons, List.getElem_cons_succ, ih k hk, List.set_append_right _ _ (by rw [show (pcells x).length = 2 by rfl]; omega)]
      rw [show (k + 1) * 2 + 1 - (pcells x).length = k * 2 + 1 by rw [show (pcells x).length = 2 by rfl]; omega]
theorem addr_step (g k : Nat) : (⟨((⟨g, 0, none⟩ : Addr).add (k * 2)).block, ((⟨g, 0, none⟩ : Addr).add (k * 2)).off + 1, none⟩ : Addr) = ⟨g, k * 2 + 1, none⟩ := by
  unfold Addr.add
  split
  · rename_i h0; simp [h0]
  · simp
/-- One entry of a row, as it lies in every later world. -/
theorem rowE_at {base : Nat} {w : World} {A : Option Addr} {n c : Nat} {P : List (Ent × Value)} (r : RowE base w (.slice A n c) P) (k : Nat) (hk : k < P.length) :
    ∃ a : Addr, A = some a ∧ base ≤ a.block ∧ a.block < w.heap.size ∧ ∀ d, Q w d → d.cell? (a.add (k * 2)) = some (.string P[k].1.key) ∧ d.cell? ⟨(a.add (k * 2)).block, (a.add (k * 2)).off + 1, none⟩ = some P[k].2 ∧ d.frozen? ⟨(a.add (k * 2)).block, (a.add (k * 2)).off + 1, none⟩ = false := by
  rcases r.2 with ⟨h, h0⟩ | ⟨g, cap, cur, h, hb, hg, h1, h2, h3, h4⟩
  · omega
  · injection h with e1 e2 e3
    subst e1
    refine ⟨⟨g, 0, none⟩, rfl, hb, lt_of_block hg, fun d q => ?_⟩
    have hg' : d.heap[g]? = some (.cells cur 61) := (Below.block q g (lt_of_block hg)).trans hg
    have r' : RowE base d (.slice (some ⟨g, 0, none⟩) n c) P := r.on q
    have c0 := World.ownsRow.cells r' (g := g) rfl (k * 2 + 0) (.string P[k].1.key) (by rw [flat_atP P k hk (by omega)]; rfl)
    have c1 := World.ownsRow.cells r' (g := g) rfl (k * 2 + 1) P[k].2 (by rw [flat_atP P k hk (by omega)]; rfl)
    refine ⟨c0, ?_, ?_⟩
    · rw [addr_step]; rw [add_pos _ (by omega)] at c1; simpa using c1
    · rw [addr_step]; simp [World.frozen?, hg']
theorem rowE_store {base : Nat} {w : World} {a : Addr} {n c : Nat} {P : List (Ent × Value)} {u : Value} (r : RowE base w (.slice (some a) n c) P) (f : ∀ p ∈ P, p.1.key.size ≤ maxLen ∧ Apt base w p.2 p.1.L) (k : Nat) (hk : k < P.length) (hu : Apt base w u P[k].1.L) (hb : base ≤ w.heap.size) :
    OwnE base (w.setCell ⟨(a.add (k * 2)).block, (a.add (k * 2)).off + 1, none⟩ u) (.slice (some a) n c) (P.map (·.1)) := by
  have r0 := r
  rcases r.2 with ⟨h, h0⟩ | ⟨g, cap, cur, h, hb', hg, h1, h2, h3, h4⟩
  · omega
  · injection h with e1 e2 e3
    injection e1 with e1
    subst e1 e2 e3
    rw [addr_step]
    obtain ⟨s1, s2⟩ := World.ownsRow.stored r (k * 2 + 1) u
    have hlen : (P.set k (P[k].1, u)).length = P.length := List.length_set
    have hmap : (P.set k (P[k].1, u)).map (·.1) = P.map (·.1) := by
      rw [List.map_set]
      refine List.ext_getElem (by simp) fun i hi1 hi2 => ?_
      rw [List.getElem_set]
      split
      · rename_i e; subst e; simp
      · rfl
    refine ⟨P.set k (P[k].1, u), hmap, ?_, fun p hp => ?_⟩
    · unfold RowE
      rw [set_flat P k hk u, hlen]; exact s1
    · obtain ⟨i, hi, rfl⟩ := List.getElem_of_mem hp
      rw [List.getElem_set]
      have hi' : i < P.length := by rw [hlen] at hi; exact hi
      split
      · rename_i e; subst e
        exact ⟨(f _ (List.getElem_mem hk)).1, hu.grown r0 s2 hb⟩
      · exact ⟨(f _ (List.getElem_mem hi')).1, (f _ (List.getElem_mem hi')).2.grown r0 s2 hb⟩
/-- The keys rise. -/
def Rise (l : List Ent) : Prop := l.Pairwise (fun x y => ltB x.key y.key = true)
theorem okI_rise {l : List Ent} (h : okI l) : Rise l := by
  refine List.pairwise_iff_getElem.2 fun i j hi hj hij => ?_
  obtain ⟨d, rfl⟩ : ∃ d, j = i + d + 1 := ⟨j - i - 1, by omega⟩
  induction d with
  | zero => exact (h.2 (i + 1) hj).2.2.2 i rfl
  | succ d ih => exact ltB_trans (ih (by omega) (by omega)) ((h.2 (i + (d + 1) + 1) hj).2.2.2 (i + d + 1) rfl)
theorem rise_parts (l : List Ent) (h : Rise l) (key : ByteArray) :
    l = l.filter (fun e => ltB e.key key) ++ l.filter (fun e => decide (e.key = key)) ++ l.filter (fun e => ltB key e.key) ∧ (l.filter (fun e => decide (e.key = key))).length ≤ 1 := by
  induction l with
  | nil => simp
  | cons x r ih =>
    obtain ⟨h1, h2⟩ := List.pairwise_cons.1 h
    obtain ⟨i1, i2⟩ := ih h2
    by_cases hx : ltB x.key key = true
    · have n1 : x.key ≠ key := ltB_ne hx
      have n2 : ltB key x.key = false := ltB_asymm hx
      refine ⟨?_, by rw [List.filter_cons_of_neg (by simpa using n1)]; exact i2⟩
      rw [List.filter_cons_of_pos (p := fun e : Ent => ltB e.key key) hx, List.filter_cons_of_neg (by simpa using n1), List.filter_cons_of_neg (by simp [n2])]
      simp only [List.cons_append]
      rw [← i1]
    · have hx : ltB x.key key = false := by simpa using hx
      have hle : ∀ y ∈ r, ltB key y.key = true := fun y hy => by
        by_cases e : x.key = key
        · rw [← e]; exact h1 y hy
        · exact ltB_trans (ltB_total e hx) (h1 y hy)
      have z1 : r.filter (fun e => ltB e.key key) = [] := List.filter_eq_nil_iff.2 fun y hy => by simp [ltB_asymm (hle y hy)]
      have z2 : r.filter (fun e => decide (e.key = key)) = [] := List.filter_eq_nil_iff.2 fun y hy => by simpa using (ltB_ne (hle y hy)).symm
      have z3 : r.filter (fun e => ltB key e.key) = r := List.filter_eq_self.2 hle
      by_cases e : x.key = key
      · have n2 : ltB key x.key = false := by rw [e]; exact ltB_irrefl _
        rw [List.filter_cons_of_neg (by simp [hx]), List.filter_cons_of_pos (by simpa using e), List.filter_cons_of_neg (by simp [n2]), z1, z2, z3]
        simp
      · rw [List.filter_cons_of_neg (by simp [hx]), List.filter_cons_of_neg (by simpa using e), List.filter_cons_of_pos (p := fun y : Ent => ltB key y.key) (ltB_total e hx), z1, z2, z3]
        simp
theorem key_none {l : List Ent} {key : ByteArray} (h : ∀ j (hl : j < l.length), l[j].key ≠ key) : l.filter (fun e => decide (e.key = key)) = [] :=
  List.filter_eq_nil_iff.2 fun y hy => by
    obtain ⟨k, hk, rfl⟩ := List.getElem_of_mem hy
    simpa using h k hk
theorem take_at {l : List Ent} (h : Rise l) (key : ByteArray) : l.take (atE l key) = l.filter (fun e => ltB e.key key) := by
  have := (rise_parts l h key).1
  conv => lhs; arg 2; rw [this]
  rw [List.append_assoc, atE, List.take_left]
theorem drop_at {l : List Ent} (h : Rise l) {key : ByteArray} (k : ∀ j (hl : j < l.length), l[j].key ≠ key) : l.drop (atE l key) = l.filter (fun e => ltB key e.key) := by
  have := (rise_parts l h key).1
  conv => lhs; arg 2; rw [this]
  rw [List.append_assoc, atE, List.drop_left, key_none k, List.nil_append]
theorem drop_at' {l : List Ent} (h : Rise l) {key : ByteArray} {i : Nat} (hi : i < l.length) (k : l[i].key = key) : l.drop (atE l key + 1) = l.filter (fun e => ltB key e.key) ∧ atE l key + 1 ≤ l.length := by
  obtain ⟨h1, h2⟩ := rise_parts l h key
  have hm : l[i] ∈ l.filter (fun e => decide (e.key = key)) := List.mem_filter.2 ⟨List.getElem_mem _, by simpa using k⟩
  have hl : (l.filter (fun e => decide (e.key = key))).length = 1 := by
    have := List.length_pos_of_mem hm; omega
  have hs : (l.filter (fun e => ltB e.key key) ++ l.filter (fun e => decide (e.key = key))).length = atE l key + 1 := by rw [List.length_append, hl, atE]
  refine ⟨?_, ?_⟩
  · conv => lhs; arg 2; rw [h1]
    rw [← hs, List.drop_left]
  · have := congrArg List.length h1
    rw [List.length_append, hs] at this
    omega
theorem putE_one (l : List Ent) (key : ByteArray) (m : List Ver) : putE l key m = l.filter (fun e => ltB e.key key) ++ oneK key m ++ l.filter (fun e => ltB key e.key) := rfl
end Go.Proofs.Ytipipjpdlblifaa
