/-
  Proved: whatever items and changes ItemsDiffs is called with, it returns true and leaves what it was given as it was. No condition.
-/
import Derived.Test.YtbilnomafloopaaGreatIAwake
namespace Go.Proofs.YtbilnomafloopaaGreat.itemsDiffs
set_option maxRecDepth 100000
open Go.ChangeShapes Go.WideShapes Go.ChangeAt Go.RowKit
open Go.ChangeMaps (open_string shut_string)
set_option linter.unusedVariables false
set_option linter.unusedSimpArgs false

set_option maxHeartbeats 4000000 in
set_option maxRecDepth 100000 in
theorem walk (l : List Itm) (v : Value) (m : List Itm) (vm : Value) (c : List Chg) (vc : Value) (w : World) (t0 : Itms w w.heap.size v l) (z0 : l.length ≤ maxLen) (t1 : Itms w w.heap.size vm m) (z1 : m.length ≤ maxLen) (t2 : Chgs w w.heap.size vc c) (z2 : c.length ≤ maxLen) :
    Calls Tryz.prog 5 #[v, vm, vc] w fun e w' => e = .returned (.bool true) ∧ Q w w' := by
  have F1 := Lib.hid (fewIs_any l v w z0 t0)
  have F2 := Lib.hid (fun (x : World) (q : Q w x) => fewIs_any m vm x z1 (t1.on q))
  have F3 := Lib.hid (fun (x : World) (q : Q w x) => fewCs_any c vc x z2 (t2.on q))
  have oA : ∀ x ∈ fewIs l, okI x := fun x hx => by have := fewIs_ok x hx; exact ⟨by unfold maxLen; omega, by unfold maxLen; omega⟩
  have oB : ∀ x ∈ fewIs m, okI x := fun x hx => by have := fewIs_ok x hx; exact ⟨by unfold maxLen; omega, by unfold maxLen; omega⟩
  have oC : ∀ x ∈ fewCs c, okH x := fun x hx => by have := fewCs_ok x hx; exact ⟨by unfold maxLen; omega, by unfold maxLen; omega, trivial⟩
  have lA := fewIs_len l
  have lB := fewIs_len m
  have lC := fewCs_len c
  obtain ⟨A, hA⟩ : ∃ A, A = fewIs l := ⟨_, rfl⟩
  obtain ⟨B, hB⟩ : ∃ B, B = fewIs m := ⟨_, rfl⟩
  obtain ⟨C, hC⟩ : ∃ C, C = fewCs c := ⟨_, rfl⟩
  rw [← hA] at F1 oA lA
  rw [← hB] at F2 oB lB
  rw [← hC] at F3 oC lC
  clear hA hB hC t0 t1 t2 z0 z1 z2
  have W1 := Lib.hid (fun (x : World) (a b : Value) (h : Itms x x.heap.size a A) (k : Chgs x x.heap.size b C) => with_any A C a b x (by omega) (by omega) oA h k)
  have W2 := Lib.hid (fun (x : World) (a b : Value) (h : Itms x x.heap.size a A) (k : Chgs x x.heap.size b C) => rwith_any A C a b x lA lC oA h k)
  have hwl := withI_len A C
  have hwo : ∀ x ∈ withI A C, okI x := withI_all (p := fun n v => n.size ≤ maxLen ∧ v.size ≤ maxLen) oA (fun x hx => ⟨(oC x hx).1, (oC x hx).2.1⟩)
  have S1 := Lib.hid (fun (x : World) (a b : Value) (h : Itms x x.heap.size a (withI A C)) (k : Itms x x.heap.size b (withI A C)) => isame_any (withI A C) (withI A C) a b x (by omega) (by omega) h k)
  have hdt : decide (withI A C = withI A C) = true := by simp
  rw [hdt] at S1
  have D1 := Lib.hid (fun (x : World) (a b : Value) (h : Itms x x.heap.size a A) (k : Itms x x.heap.size b B) => diff_any A B a b x (by omega) (by omega) h k)
  have D2 := Lib.hid (fun (x : World) (a b : Value) (h : Itms x x.heap.size a A) (k : Itms x x.heap.size b B) => rdiff_any A B a b x lA lB h k)
  have HO := Lib.hid hwo
  have HOA := Lib.hid oA
  have HOB := Lib.hid oB
  have HOC := Lib.hid oC
  have HLN : Hid (∀ d, DiffIs (ofI A) (ofI B) d → d.length ≤ 120 ∧ ∀ x ∈ d, okH x) := Lib.hid (fun d hd => by
    have e := hd.same (rdiff_is A B)
    refine ⟨by rw [e]; have h1 := diffP_len (ofI A) (ofI B) (B.foldl (inG Itm.n) (ofI A)); have h2 := foldI_len B (ofI A); have h3 := ofI_len A; omega, fun x hx => ?_⟩
    rcases (hd.2 x).1 hx with ⟨y, hy, -, rfl⟩ | ⟨y, hy, -, rfl⟩
    · exact ⟨(oB y (ofI_sub hy)).1, (oB y (ofI_sub hy)).2, trivial⟩
    · exact ⟨(oA y (ofI_sub hy)).1, by unfold maxLen; exact Nat.zero_le _, trivial⟩)
  clear oA oB oC lA lB lC hwl hwo hdt
  go_enter Tryz.func5, Tryz.ntmps5
  go_wp2_with fail
  refine (F1.out).mono ?_
  rintro e w1 ⟨v1, rfl, o1, q1⟩
  have r1 := Lib.hid (OwnI.read o1 HOA.out)
  clear F1 o1
  go_wp2_with fail
  refine (F2.out _ q1).mono ?_
  rintro e w2 ⟨v2, rfl, o2, q2⟩
  have r2 := Lib.hid (OwnI.read o2 HOB.out)
  have r1 := Lib.hid (r1.out.on q2)
  clear F2 o2
  go_wp2_with fail
  refine (F3.out _ (q1.trans q2)).mono ?_
  rintro e w3 ⟨v3, rfl, o3, q3⟩
  have r3 := Lib.hid (OwnH.read o3 HOC.out)
  have r1 := Lib.hid (r1.out.on q3)
  have r2 := Lib.hid (r2.out.on q3)
  have qa := (q1.trans q2).trans q3
  clear F3 o3 q1 q2 q3
  go_wp2_with fail
  refine (W1.out _ _ _ r1.out r3.out).mono ?_
  rintro e w4 ⟨v4, rfl, o4, q4⟩
  have r4 := Lib.hid (OwnI.read o4 HO.out)
  have r1 := Lib.hid (r1.out.on q4)
  have r2 := Lib.hid (r2.out.on q4)
  have r3 := Lib.hid (r3.out.on q4)
  clear W1 o4
  go_wp2_with fail
  refine (W2.out _ _ _ r1.out r3.out).mono ?_
  rintro e w5 ⟨v5, rfl, o5, q5⟩
  have r5 := Lib.hid (OwnI.read o5 HO.out)
  have r1 := Lib.hid (r1.out.on q5)
  have r2 := Lib.hid (r2.out.on q5)
  have r4 := Lib.hid (r4.out.on q5)
  clear W2 o5 r3
  go_wp2_with fail
  refine (S1.out _ _ _ r4.out r5.out).mono ?_
  rintro e w6 ⟨rfl, d6⟩
  have q6 := d6.q
  have r1 := Lib.hid (r1.out.on q6)
  have r2 := Lib.hid (r2.out.on q6)
  clear S1 r4 r5 d6
  go_wp2_with fail
  refine (D1.out _ _ _ r1.out r2.out).mono ?_
  rintro e w7 ⟨v7, rfl, c7, o7, h7, q7⟩
  have r7 := Lib.hid (OwnH.read o7 (HLN.out c7 h7).2)
  have r1 := Lib.hid (r1.out.on q7)
  have r2 := Lib.hid (r2.out.on q7)
  have l7 := (HLN.out c7 h7).1
  have H7 := Lib.hid h7
  clear D1 o7 h7
  go_wp2_with fail
  refine (D2.out _ _ _ r1.out r2.out).mono ?_
  rintro e w8 ⟨v8, rfl, c8, o8, h8, q8⟩
  have e8 := H7.out.same h8
  subst e8
  have r8 := Lib.hid (OwnH.read o8 (HLN.out c7 h8).2)
  have r7 := Lib.hid (r7.out.on q8)
  have S2 := Lib.hid (hsame_any c7 c7 _ _ _ (by omega) (by omega) r7.out r8.out)
  have hdt : decide (c7 = c7) = true := by simp
  rw [hdt] at S2
  clear D2 o8 h8 H7 r1 r2 r7 r8 hdt HLN
  go_wp2_with fail
  refine (S2.out).mono ?_
  rintro e w9 ⟨rfl, d9⟩
  have q9 := d9.q
  clear S2 d9
  go_wp2_with fail
  refine (awakeI_any _).mono ?_
  rintro e w10 ⟨rfl, q10⟩
  go_wp2_with fail
  go_ret
  exact ⟨rfl, ((((((qa.trans q4).trans q5).trans q6).trans q7).trans q8).trans q9).trans q10⟩

set_option maxRecDepth 100000 in
theorem lifted (os : Os) (started : os.Started) (H : Type) (enc : TypeId × Value → H) :
    ReturnsInHanded {} Tryz.checked os 5 .any (Rows.itemsDiffsSpec.pre6 enc Tryz.prog Tryz.f5 Rows.itemsDiffsRow.domain false) (Rows.itemsDiffsSpec.post enc Tryz.prog Tryz.f5 false true false false) := by
  refine returnsInHanded_of_change (C := Tryz.checked) own started (by kernel_rfl) Tryz.func5
    (ChangeSpec.witness6 (enc := enc) (C := Tryz.checked) false ⟨#[], #[.slice none 0 0, .slice none 0 0, .slice none 0 0], []⟩ 8 (by kernel_rfl) (by kernel_rfl) (by kernel_rfl) (by kernel_rfl)) ?_
  intro W base args ds gs before hval0 hW hcnd _
  have hval : ∀ (j : Nat) t v, Tryz.f5.params[j]? = some t → args[j]? = some v → Value.okWide Tryz.prog W .any base t v := hval0
  have hW' := hW
  obtain ⟨p, q, hA0, hV, rfl, hfz, hnd⟩ := hW
  have hA : DataW.TrodAll enc Tryz.prog W 0 (fun _ => true) true Tryz.f5.params.toList args.toList ds p := hA0
  rw [Tryz.params5] at hA hval
  obtain ⟨v0, vs0, d0, ds0, p0, q0, hargs, rfl, rfl, h0, r0⟩ := trodAll_cons hA
  obtain ⟨v1, vs1, d1, ds1, p1, q1, rfl, rfl, rfl, h1, r1⟩ := trodAll_cons r0
  obtain ⟨v2, vs2, d2, ds2, p2, q2, rfl, rfl, rfl, h2, r2⟩ := trodAll_cons r1
  obtain ⟨rfl, rfl, rfl⟩ := trodAll_nil r2
  obtain rfl : args = #[v0, v1, v2] := by cases args; simp_all
  obtain ⟨rfl, rfl⟩ := trodVars_none hV
  clear hA0 hval0
  simp only [List.append_nil] at hW'
  have hlt : ∀ x ∈ p0 ++ p1 ++ p2, x.block < W.heap.size := fun x hx => by simpa using hW'.lt x (by simpa using hx)
  obtain ⟨l0, t0, z0⟩ := open_itms (hval 0 26 v0 rfl rfl) h0
  obtain ⟨l1, t1, z1⟩ := open_itms (hval 1 26 v1 rfl rfl) h1
  obtain ⟨l2, t2, z2⟩ := open_chgs (hval 2 40 v2 rfl rfl) h2
  refine (walk l0 v0 l1 v1 l2 v2 W t0 z0 t1 z1 t2 z2).mono fun e W' ⟨he, bel⟩ => ?_
  subst he
  refine ⟨_, rfl, _, _, _, [], _, [], hW', trodAll_mk1 (shut_bool Tryz.underlying4 _), (trodAll_cons_mk (Below.trod laid (by kernel_rfl) (of_decide_eq_true (by kernel_rfl)) h0 bel (fun x hx => hlt x (by simp [hx]))) (trodAll_cons_mk (Below.trod laid (by kernel_rfl) (of_decide_eq_true (by kernel_rfl)) h1 bel (fun x hx => hlt x (by simp [hx]))) (trodAll_cons_mk (Below.trod laid (by kernel_rfl) (of_decide_eq_true (by kernel_rfl)) h2 bel (fun x hx => hlt x (by simp [hx]))) trodAll_mk0))), rfl, Below.frame bel _, fun h => by cases h⟩

theorem over : Rows.itemsDiffsRow.holds Tryz.pinned (OpenSpec.ofChange Rows.itemsDiffsSpec) :=
  OpenClaim.holds_of_wide 5 Tryz.f5 rfl rfl rfl rfl rfl rfl rfl ⟨rfl, rfl, rfl, rfl, rfl⟩ rfl rfl rfl rfl rfl (by kernel_rfl) Tryz.func5 (by kernel_rfl)
    (of_decide_eq_true (by kernel_rfl)) (by unfold Func.isWrapper; first | (rw [if_pos (by decide +kernel)]; kernel_rfl) | (rw [if_neg (by decide +kernel)]; exact ⟨rfl, rfl⟩))
    (fun os started H enc _ => lifted os started H enc)

theorem proved : Rows.ItemsDiffsSaid := over
#print axioms proved
end Go.Proofs.YtbilnomafloopaaGreat.itemsDiffs
