/-
  The chapter's examples: awake.
-/
import Derived.Test.YtpcanlafbcdmcaaKRScan
import Derived.Test.YtpcanlafbcdmcaaKAll
import Derived.Test.YtpcanlafbcdmcaaKSame
namespace Go.Proofs.Ytpcanlafbcdmcaa
set_option maxRecDepth 100000
open Go.ChangeShapes Go.WideShapes Go.ChangeAt Go.RowKit
set_option linter.unusedVariables false
set_option linter.unusedSimpArgs false
set_option maxRecDepth 100000

theorem run_append_txts (w : World) (base b2 : Nat) (ty : TypeId) (v : Value) (l m : List ByteArray) {A : Option Addr} {n c : Nat} (h : w.ownsRow base 9 1 v l.length (l.map Value.string))
    (g : w.ownsRow b2 9 1 (.slice A n c) m.length (m.map Value.string)) (hb : base ≤ w.heap.size) (hl : l.length + m.length ≤ 1000000) :
    ∃ v' w', (Builtin.append_ #[28, 28] ty #[v, .slice A n c]).run Try.prog w = .ok v' w' ∧ w'.ownsRow base 9 1 v' (l ++ m).length ((l ++ m).map Value.string) ∧ w.grownBy w' v.ownBlock := by
  obtain ⟨i0, hi0, hz0, hz1, hz2⟩ := info_parts info_str
  rcases g.2 with ⟨e, h0⟩ | ⟨k, cap, cur, e, -, hk, -⟩
  · rw [e]
    have hm : m = [] := List.length_eq_zero_iff.1 h0
    subst hm
    exact ⟨v, w, run_append_owned_none (P := Try.prog) (w := w) base 28 ty 9 i0 1 Try.underlying28 hi0 v _ _ h, by simpa using h, World.grownBy.refl w _⟩
  · injection e with e1 e2 e3
    subst e1 e2 e3
    obtain ⟨v', w', h1, h2, h3, -⟩ := run_append_own (P := Try.prog) w base 28 ty 9 i0 (.string ⟨#[]⟩) 1 16 Try.underlying28 hi0 hz0 hz1 hz2 rfl (by decide) v l.length (l.map Value.string) h ⟨k, 0, none⟩ m.length c (m.map Value.string) (by simp) (World.ownsRow.cells (g := k) g rfl) (by intro u hu; obtain ⟨s, -, rfl⟩ := List.mem_map.1 hu; rfl) (by unfold maxLen; omega) (by omega) hb
    exact ⟨v', w', h1, by rw [List.length_append, List.map_append]; exact h2, h3⟩
theorem wpList_append_txts {ops : Array Oper} {rest : List Oper} {o : Oper} {a : Act} {Q : Exit → Act → World → Prop} (w : World) (hgd : o.guard = none) (s x : Operand)
    (ho : o.op = .call { callee := .builtin .append, args := #[s, x], argTypes := #[28, 28] })
    (base b2 : Nat) (v : Value) (l m : List ByteArray) {A : Option Addr} {n c : Nat} (hs : a.eval s = v) (hx : a.eval x = .slice A n c) (h : w.ownsRow base 9 1 v l.length (l.map Value.string))
    (g : w.ownsRow b2 9 1 (.slice A n c) m.length (m.map Value.string)) (hb : base ≤ w.heap.size) (hl : l.length + m.length ≤ 1000000)
    (k : ∀ v' w', w'.ownsRow base 9 1 v' (l ++ m).length ((l ++ m).map Value.string) → w.grownBy w' v.ownBlock → wpList Try.prog ops Q rest (a.put o.dst v') w') : wpList Try.prog ops Q (o :: rest) a w := by
  refine wpList_plain hgd fun K hK => ?_
  obtain ⟨v', w', h1, h2, h3⟩ := run_append_txts w base b2 o.type v l m h g hb hl
  unfold Oper.wp execOp
  simp only [ho, resolve, invoke, builtin, Sem.run_bind, Sem.run_pure, Result.andThen_ok, List.map_toArray, List.map_cons, List.map_nil, hs, hx, h1]
  exact hK _ _ (k v' w' h2 h3)
theorem own_kept {w w' : World} {base b2 : Nat} {v u : Value} {n m : Nat} {xs ys : List Value} {e f : TypeId} (h : w.ownsRow base e 1 v n xs) (g : w.grownBy w' u.ownBlock) (ho : w.ownsRow b2 f 1 u m ys) (hb : ∀ k, v.ownBlock = some k → k < b2) : w'.ownsRow base e 1 v n xs := by
  refine h.kept g ?_
  cases hv : v.ownBlock with
  | none => exact .inl rfl
  | some k =>
    right
    intro e
    have h1 := hb k hv
    have h2 := (World.ownsRow.lt ho k e.symm).1
    omega

/-- A row that was just made of one text. -/
theorem OwnT.one (w : World) (base : Nat) (y : ByteArray) (hb : base ≤ w.heap.size) : OwnT base (w.alloc (.cells #[.string y] 9)) (.slice (some ⟨w.heap.size, 0, none⟩) 1 1) [y] :=
  ⟨rfl, .inr ⟨_, 1, _, rfl, hb, Bx.new w 9 #[.string y], Nat.le_refl _, by unfold maxLen; omega, rfl, rfl⟩⟩
theorem scanV_of {l : List ByteArray} (h : ∀ b ∈ l, b.size = 64) {r : List ByteArray} {n : Nat} (e : allK l = (r, n, true)) : scanV l = (r, n, 0) := by
  rw [scanV, if_pos h, e]; rfl
/-- The example's record. -/
def exK : ByteArray := (octsB 120 2).extract 0 59
theorem exK_size : exK.size = 59 := by rw [exK, size_cut _ (by rw [octsB_size]; omega)]
theorem exK_len : (layK exK).length = 2 := by rw [layK_length, exK_size]; rfl
theorem ex_cut : cutK (joinK (layK exK)) = layK exK := cut_join _ (layK_size _)
theorem ex_scan1 : scanV ((layK exK).take 1) = ([], 1, 0) := by
  refine scanV_of (fun b hb => layK_size exK b (List.mem_of_mem_take hb)) ?_
  have h := cut_plain [exK] (fun s hs => by rw [List.mem_singleton.1 hs, exK_size]; omega) 0 1 (by simp) (Nat.zero_le _) (fun _ => by
    rw [upK_succ _ _ (by simp), upK_zero]; show 1 < 0 + manyK exK.size; rw [exK_size]; decide) (by rw [List.flatMap_singleton, exK_len]; omega)
  rw [List.flatMap_singleton] at h
  exact h
theorem zero_at (i : Nat) : atK (octsB 0 1) i = 0 := by
  rw [atK, octsB, bl_mk]
  by_cases h : i < 64
  · rw [List.getElem?_replicate_of_lt (by omega)]; rfl
  · rw [List.getElem?_eq_none (by rw [List.length_replicate]; omega)]; rfl
theorem ex_scan2 : scanV (octsB 0 1 :: layK exK) = ([], 0, 11) := by
  have hz : ∀ b ∈ octsB 0 1 :: layK exK, b.size = 64 := by
    intro b hb
    rcases List.mem_cons.1 hb with rfl | hb
    · rw [octsB_size]
    · exact layK_size exK b hb
  have hn : firstK (octsB 0 1 :: layK exK) = none := by
    cases hf : firstK (octsB 0 1 :: layK exK) with
    | none => rfl
    | some t =>
      exfalso
      obtain ⟨h1, h2, h3⟩ := first_some hf
      obtain ⟨r, hr⟩ := lay_cons t h1
      have hp := manyK_pos h1
      rw [hr, show manyK t.size = (manyK t.size - 1) + 1 by omega, List.take_succ_cons] at h3
      injection h3 with h3 _
      have h4 := at63_blk (bl t) 0
      rw [← h3, zero_at] at h4
      omega
  obtain ⟨h1, h2⟩ := recsK_none hn
  refine scanV_bad hz ?_ ?_
  · rw [h2]; simp
  · rw [h2]
    refine tail_no1 (by simp) ?_
    show folK (octsB 0 1) < (layK exK).length
    rw [exK_len, folK, zero_at, zero_at]; omega
set_option maxHeartbeats 8000000 in
theorem awake_any (w : World) : Calls Try.prog 14 #[] w fun e w' => e = .returned (.bool true) ∧ Q w w' := by
  have A1 := Lib.hid fun w => all_any 120 2 w (by omega) (by omega) (by omega)
  have A2 := Lib.hid fun w => all_any 0 1 w (by omega) (by omega) (by omega)
  have o1 := octsB_size 120 2
  obtain ⟨O1, hO1⟩ : ∃ O1, O1 = octsB 120 2 := ⟨_, rfl⟩
  obtain ⟨O2, hO2⟩ : ∃ O2, O2 = octsB 0 1 := ⟨_, rfl⟩
  have hX : O1.extract 0 59 = exK := by rw [hO1]; rfl
  have S2 := ex_scan2
  rw [← hO1] at A1 o1
  rw [← hO2] at A2 S2
  have S1 := Lib.hid ex_scan1
  have S2 := Lib.hid S2
  have hXs := exK_size
  have CT := Lib.hid ex_cut
  have LL := Lib.hid exK_len
  have hoi : (59 : Int) ≤ (O1.size : Int) := by omega
  have hoi2 : 59 ≤ O1.size := by omega
  have LY := Lib.hid fun w => layYes_any exK w (by omega)
  have HJ : Hid ((joinK (layK exK)).size ≤ 1000000) := Lib.hid (by rw [joinK_size _ (layK_size _), LL.out]; omega)
  obtain ⟨X, hXX⟩ : ∃ X, X = exK := ⟨_, rfl⟩
  rw [← hXX] at hX hXs S1 S2 CT LL LY HJ
  have M1 : Hid (∀ w, Calls Try.prog 12 #[.int .i64 58] w fun e w' => e = .returned (.int .i64 1) ∧ w' = w) := Lib.hid (fun w => by
    have := many_any 58 w (by omega)
    rw [show manyI 58 = 1 by decide] at this
    exact this)
  have M2 : Hid (∀ w, Calls Try.prog 12 #[.int .i64 59] w fun e w' => e = .returned (.int .i64 2) ∧ w' = w) := Lib.hid (fun w => by
    have := many_any 59 w (by omega)
    rw [show manyI 59 = 2 by decide] at this
    exact this)
  obtain ⟨J, hJ⟩ : ∃ J, J = joinK (layK X) := ⟨_, rfl⟩
  rw [← hJ] at CT LY HJ
  have C := Lib.hid fun w => cut_any J w HJ.out
  obtain ⟨L, hL⟩ : ∃ L, L = layK X := ⟨_, rfl⟩
  rw [← hL] at CT LL S1 S2
  rw [CT.out] at C
  clear hO1 hO2 hXX hJ hL o1 CT HJ
  go_enter Try.func14, Try.ntmps14
  go_wp2_with fail
  refine (A1.out _).mono ?_
  rintro e w1 ⟨rfl, q1⟩
  go_wp2_with fail
  refine (LY.out _).mono ?_
  rintro e w2 ⟨rfl, q2⟩
  go_wp2_with fail
  refine (C.out _).mono ?_
  rintro e w3 ⟨A3, c3, rfl, ho3, q3⟩
  have HO3 := Lib.hid ho3
  have Q3 := Lib.hid ((q1.trans q2).trans q3)
  clear q1 q2 q3 ho3
  obtain ⟨A3', c3', e3, hc3⟩ := HO3.out.form
  injection e3 with e31 e32 e33
  subst e31 e33
  clear e32
  obtain ⟨a3, c3', hv3, hLc3, ha3, -⟩ := HO3.out.tcs.at (by rw [LL.out]; omega)
  injection hv3 with e31 e32 e33
  subst e31 e33
  clear e32
  have SC1 := Lib.hid (fun x (q : Q w3 x) => scan_any (L.take 1) (.slice (some a3) 1 c3) x (by rw [List.length_take]; omega) ((HO3.out.tcs.on q).cutTake (i := 1) (by rw [LL.out]; omega)))
  have hL2 : (L.length : Int) = 2 := by have := LL.out; omega
  have hL3 : ((L.length : Int) != 2) = false := by rw [hL2]; rfl
  have hc1 : (1 : Int) ≤ (c3 : Int) := by have := LL.out; omega
  have hc2 : 1 ≤ c3 := by have := LL.out; omega
  have hc0 : ¬ c3 = 0 := by omega
  go_wp2_with fail
  refine (SC1.out _ (Q.refl _)).mono ?_
  rintro e w4 ⟨A4, c4, rfl, -, q4⟩
  rw [S1.out]
  have Q4 := Lib.hid (Q3.out.trans q4)
  have QQ4 := Lib.hid q4
  clear q4
  go_wp2_with fail
  refine (A2.out _).mono ?_
  rintro e w5 ⟨rfl, q5⟩
  have Q5 := Lib.hid (Q4.out.trans q5)
  have QQ5 := Lib.hid (QQ4.out.trans q5)
  clear q5
  have o5 := Lib.hid (OwnT.one w5 w5.heap.size O2 (Nat.le_refl _))
  have o3 := Lib.hid ((HO3.out.on QQ5.out).on ((Q.refl w5).alloc (.cells #[.string O2] 9)))
  go_wp2_with (at_builtin; refine wpList_append_txts _ rfl _ _ rfl w5.heap.size _ _ [O2] L rfl rfl o5.out o3.out (by rw [World.size_alloc]; omega) (by have := LL.out; simp; omega) ?_; intro v6 w6 ho6 hg6; refine Hid.out ?_)
  refine Lib.hid ?_
  have ho6' : OwnT w5.heap.size w6 v6 (O2 :: L) := ho6
  have q6 : Q w5 w6 := OwnT.below ((Q.refl w5).alloc (.cells #[.string O2] 9)) (by rw [World.size_alloc]; omega) o5.out hg6
  obtain ⟨A6, c6, rfl, hc6⟩ := ho6'.form
  have HO6 := Lib.hid ho6'
  have Q6 := Lib.hid (Q5.out.trans q6)
  have SC2 := Lib.hid (scan_any (O2 :: L) (.slice A6 (O2 :: L).length c6) w6 (by have := LL.out; simp; omega) HO6.out.tcs)
  obtain ⟨N6, hN6⟩ : ∃ N6, N6 = (O2 :: L).length := ⟨_, rfl⟩
  rw [← hN6] at SC2 ⊢
  clear ho6 ho6' hg6 q6 hc6 hN6 o5 o3
  go_wp2_with fail
  refine SC2.out.mono ?_
  rintro e w7 ⟨A7, c7, rfl, -, q7⟩
  rw [S2.out]
  have Q7 := Lib.hid (Q6.out.trans q7)
  clear q7
  have l0 : ([] : List ByteArray).length = 0 := rfl
  go_wp2_with fail
  refine (M1.out _).mono ?_
  rintro e w8 ⟨rfl, rfl⟩
  go_wp2_with fail
  refine (M2.out _).mono ?_
  rintro e w9 ⟨rfl, rfl⟩
  go_wp2_with fail
  go_ret
  exact ⟨rfl, Q7.out⟩
end Go.Proofs.Ytpcanlafbcdmcaa
