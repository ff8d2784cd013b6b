/-
  Contract of the program's over; what without comes to.
-/
import Derived.Test.YtflfhigldkdlmaaPLay
namespace Go.Proofs.Ytflfhigldkdlmaa
open Go.ChangeShapes Go.WideShapes Go.ChangeAt Go.RowKit
set_option linter.unusedVariables false
set_option linter.unusedSimpArgs false

theorem wo_none {l : List Ver} {id : Nat} (h : ∀ j (hl : j < l.length), l[j].id ≠ id) : woV l id = l := by
  rw [woV, List.filter_eq_self]
  intro x hx
  obtain ⟨j, hj, rfl⟩ := List.getElem_of_mem hx
  simpa using h j hj
/-- In a chain that may be each ID stands once. -/
theorem okP_apart {l : List Ver} (h : okP l) {i j : Nat} (hij : i < j) (hj : j < l.length) : (l[i]'(by omega)).id ≠ l[j].id := by
  intro e
  have := (h.2 j).2.2 i hj hij (by omega)
  unfold pairBad at this
  by_cases h0 : l[j].id = 0
  · rw [if_pos h0, decide_eq_false_iff_not] at this
    exact this (by rw [e]; exact h0)
  · rw [if_neg h0, if_neg (by rw [e]; exact h0), decide_eq_false_iff_not] at this
    omega
theorem wo_cut {l : List Ver} (h : okP l) {i : Nat} (hi : i < l.length) : woV l l[i].id = l.take i ++ l.drop (i + 1) := by
  have e : l = l.take i ++ l[i] :: l.drop (i + 1) := by rw [List.getElem_cons_drop, List.take_append_drop]
  have h1 : woV (l.take i) l[i].id = l.take i := wo_none fun j hj => by
    rw [List.length_take] at hj
    rw [List.getElem_take]
    exact okP_apart h (by omega) hi
  have h2 : woV (l.drop (i + 1)) l[i].id = l.drop (i + 1) := wo_none fun j hj => by
    rw [List.length_drop] at hj
    rw [List.getElem_drop]
    exact (okP_apart h (by omega) (by omega)).symm
  have h3 : ∀ y : Ver, y = l[i] → woV (l.take i ++ y :: l.drop (i + 1)) l[i].id = l.take i ++ l.drop (i + 1) := by
    intro y hy
    unfold woV at h1 h2 ⊢
    rw [List.filter_append, List.filter_cons_of_neg (by simp [hy]), h1, h2]
  exact (congrArg (fun m => woV m l[i].id) e).trans (h3 _ rfl)
theorem wo_ok {l : List Ver} {id : Nat} (h : ∀ x ∈ l, okV x) : ∀ x ∈ woV l id, okV x := fun x hx => h x (List.mem_filter.1 hx).1
/-- A version of ID 0. -/
def zeroId (x : Ver) : Ver := { x with id := 0 }
theorem zeroId_ok {x : Ver} (h : okV x) : okV (zeroId x) := ⟨by show 0 < 18446744073709551616; omega, h.2⟩
theorem Vers.okAll {w : World} {B : Nat} {v : Value} {l : List Ver} (h : Vers w B v l) : ∀ x ∈ l, okV x := by
  obtain ⟨A, c, e, e0, ez, eo, f⟩ := h; exact eo
theorem place_cases (l : List Ver) (id : Nat) : (∃ i, ∃ h : i < l.length, idxV (fun x => decide (x.id = id)) l = (i : Nat) ∧ l[i].id = id) ∨ (idxV (fun x => decide (x.id = id)) l = -1 ∧ ∀ j (hl : j < l.length), l[j].id ≠ id) := by
  unfold idxV
  cases h : l.findIdx? (fun x => decide (x.id = id)) with
  | some i =>
    left
    rw [List.findIdx?_eq_some_iff_getElem] at h
    obtain ⟨hi, hp, hk⟩ := h
    exact ⟨i, hi, rfl, by simpa using hp⟩
  | none =>
    right
    rw [List.findIdx?_eq_none_iff] at h
    exact ⟨rfl, fun j hl => by simpa using h _ (List.getElem_mem hl)⟩
set_option maxHeartbeats 1000000 in
theorem over_any (l : List Ver) (v : Value) (x : Ver) (w : World) (hR : okP l) (hx : okV x) (hl : l.length ≤ 1000) (ht : Vers w w.heap.size v l) :
    Calls Try.prog 36 #[v, ver x] w fun e w' => ∃ v', e = .returned v' ∧ OwnV w.heap.size w' v' (zeroId x :: woV l 0) ∧ Q w w' := by
  have hok := ht.okAll
  have P : Hid (∀ b, Q w b → Calls Try.prog 33 #[v, .int .u64 0] b fun e w' => e = .returned (.int .i64 (idxV (fun x => decide (x.id = 0)) l)) ∧ Q b w') := Lib.hid (fun b q => place_any l v 0 b hl (ht.on q))
  have AH : Hid (∀ (b : World) (m : List Ver) (u : Value), m.length ≤ 1000 → Vers b b.heap.size u m → Calls Try.prog 37 #[u, .agg #[.int .u64 0, .string x.data, .bool x.mark, .int .i64 x.tm]] b fun e w' => ∃ v', e = .returned v' ∧ OwnV b.heap.size w' v' (zeroId x :: m) ∧ Q b w') :=
    Lib.hid (fun b m u hm hu => ahead_any m u (zeroId x) b (zeroId_ok hx) hm hu)
  have T := Lib.hid ht
  have qb : Q w (w.alloc (.cells #[.int .u64 0, .string x.data, .bool x.mark, .int .i64 x.tm] 25)) := (Q.refl w).alloc _
  rcases place_cases l 0 with ⟨i, hi, hp, h0⟩ | ⟨hp, hn⟩
  · have W : Hid (∀ b, Q w b → Calls Try.prog 34 #[v, .int .i64 (i : Nat)] b fun e w' => ∃ v', e = .returned v' ∧ OwnV b.heap.size w' v' (woV l 0) ∧ Q b w') := Lib.hid (fun b q => by
      have := without_any l v i b hi hl (ht.on q)
      rw [← wo_cut hR hi, h0] at this
      exact this)
    have HO := Lib.hid (wo_ok (id := 0) hok)
    have HL : Hid ((woV l 0).length ≤ 1000) := Lib.hid (Nat.le_trans (wo_length l 0) hl)
    rw [hp] at P
    clear ht hok hp h0 hi
    rw [ver]
    go_enter Try.func36, Try.ntmps36
    go_wp2_with fail
    refine (P.out _ qb).mono ?_
    rintro e w1 ⟨rfl, q1⟩
    have qc := qb.trans q1
    go_wp2_with fail
    refine (W.out _ qc).mono ?_
    rintro e w2 ⟨v2, rfl, o2, q2⟩
    obtain ⟨b0, b1, b2, b3⟩ := box_of (q1.trans q2)
    have qd := qc.trans q2
    have t2 := Lib.hid (o2.vers HO.out)
    clear o2
    go_wp2_with fail
    refine (AH.out _ _ _ HL.out t2.out).mono ?_
    rintro e w3 ⟨v3, rfl, o3, q3⟩
    go_wp2
    go_ret
    exact ⟨_, rfl, OwnV.lower o3 qd.size, qd.trans q3⟩
  · have HW : Hid (woV l 0 = l) := Lib.hid (wo_none hn)
    rw [hp] at P
    clear ht hok hp hn
    rw [ver]
    go_enter Try.func36, Try.ntmps36
    go_wp2_with fail
    refine (P.out _ qb).mono ?_
    rintro e w1 ⟨rfl, q1⟩
    obtain ⟨b0, b1, b2, b3⟩ := box_of q1
    have qc := qb.trans q1
    go_wp2_with fail
    refine (AH.out _ l _ hl (T.out.on qc)).mono ?_
    rintro e w3 ⟨v3, rfl, o3, q3⟩
    go_wp2
    go_ret
    exact ⟨_, rfl, by rw [HW.out]; exact OwnV.lower o3 qc.size, qc.trans q3⟩
end Go.Proofs.Ytflfhigldkdlmaa
