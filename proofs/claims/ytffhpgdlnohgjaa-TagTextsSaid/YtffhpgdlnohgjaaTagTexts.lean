/-
  Proved: whatever numbers and text TagTexts is called with, it returns true and leaves what it was given as it was. No condition.
-/
import Derived.Test.YtffhpgdlnohgjaaTNums
import Derived.Test.YtffhpgdlnohgjaaTRParse
import Derived.Deep.DeepCutAuto
namespace Go.Proofs.Ytffhpgdlnohgjaa.tagTexts
open Go.ChangeShapes Go.WideShapes Go.ChangeAt Go.RowKit
open Go.ChangeMaps (open_string shut_string)
set_option linter.unusedVariables false

theorem tag_parts (o : Option Nat) : ∃ (T E : Int) (B : Bool), tagV o = .tuple #[.int .u32 T, .int .i64 E] ∧ numV o = .tuple #[.int .u32 T, .bool B] ∧ ((B = true ∧ E = 0) ∨ (B = false ∧ E = 2)) := by
  cases o with
  | none => exact ⟨0, 2, false, rfl, rfl, .inr ⟨rfl, rfl⟩⟩
  | some n => exact ⟨n, 0, true, rfl, rfl, .inl ⟨rfl, rfl⟩⟩
theorem read_parts (o : Option (Nat × Nat)) : ∃ (T N E : Int) (B : Bool), readV o = .tuple #[.int .u32 T, .int .i64 N, .int .i64 E] ∧ rreadV o = .tuple #[.int .u32 T, .int .i64 N, .bool B] ∧ ((B = true ∧ E = 0) ∨ (B = false ∧ E = 2)) := by
  cases o with
  | none => exact ⟨0, 0, 2, false, rfl, rfl, .inr ⟨rfl, rfl⟩⟩
  | some p => obtain ⟨t, n⟩ := p; exact ⟨t, n, 0, true, rfl, rfl, .inl ⟨rfl, rfl⟩⟩
attribute [local irreducible] few crc more reg manyP hexk cnt manyV tagP readP
set_option maxHeartbeats 4000000 in
set_option maxRecDepth 100000 in
theorem walk (l : List Nat) (v : Value) (d : ByteArray) (w : World) (n0 : Nums w w.heap.size v l) (z0 : l.length ≤ maxLen) (w1 : d.size ≤ maxLen) :
    Calls Try.prog 4 #[v, .string d] w fun e w' => e = .returned (.bool true) ∧ Q w w' := by
  have fs := few_size d
  have F := Lib.hid fun w => few_any d w w1
  obtain ⟨D, hD⟩ : ∃ D, D = few d := ⟨_, rfl⟩
  rw [← hD] at fs F
  clear hD
  have hD0 : D.size ≤ 5000 := by omega
  obtain ⟨T, E, B, p1, p2, h1⟩ := tag_parts (tagP (bl D))
  obtain ⟨T', N', E', B', p3, p4, h2⟩ := read_parts (readP (bl D))
  have P := Lib.hid fun w => parse_any D w hD0
  have RP := Lib.hid fun w => rparse_any D w hD0
  have R := Lib.hid fun w => read_d D w hD0
  have RR := Lib.hid fun w => rread_any D w hD0
  rw [p1] at P
  rw [p2] at RP
  rw [p3] at R
  rw [p4] at RR
  clear p1 p2 p3 p4 w1 fs
  have nn : ((⟨#[]⟩ : ByteArray).toList == []) = true := by kernel_rfl
  have nn2 : (⟨#[]⟩ : ByteArray).toList = [] := by kernel_rfl
  by_cases hbig : 101 < l.length
  · obtain ⟨A, c, rfl, hcap, -, f⟩ := n0
    have n0 : Nums w w.heap.size (.slice A l.length c) l := ⟨A, c, rfl, hcap, by intro e; subst e; obtain ⟨a, e, -⟩ := f 0 (by omega); simp at e, f⟩
    obtain ⟨a, rfl, -⟩ := f 0 (by omega)
    clear f
    have n1 := n0.take (k := 101) (by omega)
    have hL : (l.take 101).length = 101 := by rw [List.length_take]; omega
    obtain ⟨L, hL'⟩ : ∃ L, L = l.take 101 := ⟨_, rfl⟩
    rw [← hL'] at n1 hL
    clear n0 hL'
    have hc1 : (101 : Int) ≤ (c : Int) := by omega
    have hb : (101 : Int) < (l.length : Int) := by omega
    have M : ∀ w', Nums w' w'.heap.size (.slice (some a) 101 c) L → Calls Try.prog 20 #[.slice (some a) 101 c] w' fun e w'' => e = .returned (manyV L) ∧ Q w' w'' := fun w' h => many_any L _ w' (by omega) h
    have M := Lib.hid M
    rw [manyV_no (by omega)] at M
    go_enter Try.func4, Try.ntmps4
    go_wp2_with fail
    refine (F.out _).mono ?_
    rintro e w0 ⟨rfl, rfl⟩
    go_wp2_with fail
    refine (P.out _).mono ?_
    rintro e w1 ⟨rfl, rfl⟩
    go_wp2_with fail
    refine (RP.out _).mono ?_
    rintro e w2 ⟨rfl, q2⟩
    go_wp2_with fail
    refine (R.out _).mono ?_
    rintro e w3 ⟨rfl, d3⟩
    go_wp2_with fail
    refine (RR.out _).mono ?_
    rintro e w4 ⟨rfl, q4⟩
    have q5 : Q w w4 := (q2.trans d3.q).trans q4
    clear q2 d3 q4
    go_upto_region 8 with fail
    go_cut [92] from 52 (fun c wx => c = .bool false ∧ wx = w4)
    case first =>
      rcases h1 with ⟨rfl, rfl⟩ | ⟨rfl, rfl⟩ <;> rcases h2 with ⟨rfl, rfl⟩ | ⟨rfl, rfl⟩ <;> (go_wp2_with fail; go_meet; exact ⟨rfl, rfl⟩)
    case rest =>
    obtain ⟨rfl, rfl⟩ := hcut
    clear h1 h2
    go_wp2_with fail
    refine (M.out _ (n1.on q5)).mono ?_
    rintro e w6 ⟨rfl, q6⟩
    have q7 := q5.trans q6
    go_wp2_with fail
    refine (awake_any _).mono ?_
    rintro e w9 ⟨rfl, q9⟩
    go_wp2
    go_ret
    exact ⟨rfl, q7.trans q9⟩
  · obtain ⟨A, c, rfl, hcap, hA, f⟩ := n0
    have n1 : Nums w w.heap.size (.slice A l.length c) l := ⟨A, c, rfl, hcap, hA, f⟩
    have hb : ¬ ((101 : Int) < (l.length : Int)) := by omega
    obtain ⟨K, hL⟩ : ∃ K, l.length = K := ⟨_, rfl⟩
    have M : ∀ w', Nums w' w'.heap.size (.slice A K c) l → Calls Try.prog 20 #[.slice A K c] w' fun e w'' => e = .returned (manyV l) ∧ Q w' w'' := fun w' h => many_any l _ w' (by omega) h
    have M := Lib.hid M
    rw [hL] at n1 hb hcap hbig ⊢
    by_cases k0 : K = 0
    · rw [manyV_no (by omega)] at M
      have hK : ((K : Int) == 0) = true := by simp [k0]
      clear k0 f
      go_enter Try.func4, Try.ntmps4
      go_wp2_with fail
      refine (F.out _).mono ?_
      rintro e w0 ⟨rfl, rfl⟩
      go_wp2_with fail
      refine (P.out _).mono ?_
      rintro e w1 ⟨rfl, rfl⟩
      go_wp2_with fail
      refine (RP.out _).mono ?_
      rintro e w2 ⟨rfl, q2⟩
      go_wp2_with fail
      refine (R.out _).mono ?_
      rintro e w3 ⟨rfl, d3⟩
      go_wp2_with fail
      refine (RR.out _).mono ?_
      rintro e w4 ⟨rfl, q4⟩
      have q5 : Q w w4 := (q2.trans d3.q).trans q4
      clear q2 d3 q4
      go_upto_region 8 with fail
      go_cut [92] from 52 (fun c wx => c = .bool false ∧ wx = w4)
      case first =>
        rcases h1 with ⟨rfl, rfl⟩ | ⟨rfl, rfl⟩ <;> rcases h2 with ⟨rfl, rfl⟩ | ⟨rfl, rfl⟩ <;> (go_wp2_with fail; go_meet; exact ⟨rfl, rfl⟩)
      case rest =>
      obtain ⟨rfl, rfl⟩ := hcut
      clear h1 h2
      go_wp2_with fail
      refine (M.out _ (n1.on q5)).mono ?_
      rintro e w6 ⟨rfl, q6⟩
      have q7 := q5.trans q6
      go_wp2_with fail
      refine (awake_any _).mono ?_
      rintro e w9 ⟨rfl, q9⟩
      go_wp2
      go_ret
      exact ⟨rfl, q7.trans q9⟩
    · have hK : ((K : Int) == 0) = false := by
        have : ¬ (K : Int) = 0 := by omega
        simpa using this
      by_cases k1 : K = 101
      · rw [manyV_no (by omega)] at M
        have hK2 : (100 : Int) < (K : Int) := by omega
        clear k0 k1 f
        go_enter Try.func4, Try.ntmps4
        go_wp2_with fail
        refine (F.out _).mono ?_
        rintro e w0 ⟨rfl, rfl⟩
        go_wp2_with fail
        refine (P.out _).mono ?_
        rintro e w1 ⟨rfl, rfl⟩
        go_wp2_with fail
        refine (RP.out _).mono ?_
        rintro e w2 ⟨rfl, q2⟩
        go_wp2_with fail
        refine (R.out _).mono ?_
        rintro e w3 ⟨rfl, d3⟩
        go_wp2_with fail
        refine (RR.out _).mono ?_
        rintro e w4 ⟨rfl, q4⟩
        have q5 : Q w w4 := (q2.trans d3.q).trans q4
        clear q2 d3 q4
        go_upto_region 8 with fail
        go_cut [92] from 52 (fun c wx => c = .bool false ∧ wx = w4)
        case first =>
          rcases h1 with ⟨rfl, rfl⟩ | ⟨rfl, rfl⟩ <;> rcases h2 with ⟨rfl, rfl⟩ | ⟨rfl, rfl⟩ <;> (go_wp2_with fail; go_meet; exact ⟨rfl, rfl⟩)
        case rest =>
        obtain ⟨rfl, rfl⟩ := hcut
        clear h1 h2
        go_wp2_with fail
        refine (M.out _ (n1.on q5)).mono ?_
        rintro e w6 ⟨rfl, q6⟩
        have q7 := q5.trans q6
        go_wp2_with fail
        refine (awake_any _).mono ?_
        rintro e w9 ⟨rfl, q9⟩
        go_wp2
        go_ret
        exact ⟨rfl, q7.trans q9⟩
      · have hK2 : ¬ (100 : Int) < (K : Int) := by omega
        rw [manyV_yes (by omega) (by omega)] at M
        obtain ⟨a, rfl, ha, hm, hcell⟩ := f 0 (by omega)
        clear f hA
        rw [show a.add 0 = a by cases a; simp [Addr.add]] at hcell
        obtain ⟨m, hmj⟩ : ∃ m, m = l[0] := ⟨_, rfl⟩
        rw [← hmj] at hcell hm
        clear hmj k1
        have hs := many_size l (by omega)
        have RM := Lib.hid fun w => read_d (mk (manyP l)) w (by omega)
        rw [bl_mk, readP_many (by omega) (by omega), readV, hL] at RM
        have X := Lib.hid fun w => text_any m w hm
        have RX := Lib.hid fun w => rtext_any m w hm
        have z : (mk (hexk 8 m)).size ≤ 5000 := by rw [mk_size, hexk_length]; omega
        have PX := Lib.hid fun w => parse_any (mk (hexk 8 m)) w z
        rw [bl_mk, tagP_iff.2 ⟨hm, rfl⟩, tagV] at PX
        have RMA : ∀ w', Nums w' w'.heap.size (.slice (some a) K c) l → Calls Try.prog 23 #[.slice (some a) K c] w' fun e w'' => e = .returned (.string (mk (manyP l))) ∧ Q w' w'' := fun w' h => rmany_any l _ w' (by omega) (by omega) h
        have RMA := Lib.hid RMA
        obtain ⟨S, hS⟩ : ∃ S, S = mk (manyP l) := ⟨_, rfl⟩
        obtain ⟨x, hx⟩ : ∃ x, x = mk (hexk 8 m) := ⟨_, rfl⟩
        obtain ⟨n, hn⟩ : ∃ n, n = crc (l.flatMap oc4) := ⟨_, rfl⟩
        simp only [← hS] at M RM RMA hs
        rw [← hx] at X RX PX
        rw [← hn] at RM
        clear hS hx hn z
        have hK3 : (0 : Int) < (K : Int) := by omega
        clear k0
        go_enter Try.func4, Try.ntmps4
        go_wp2_with fail
        refine (F.out _).mono ?_
        rintro e w0 ⟨rfl, rfl⟩
        go_wp2_with fail
        refine (P.out _).mono ?_
        rintro e w1 ⟨rfl, rfl⟩
        go_wp2_with fail
        refine (RP.out _).mono ?_
        rintro e w2 ⟨rfl, q2⟩
        go_wp2_with fail
        refine (R.out _).mono ?_
        rintro e w3 ⟨rfl, d3⟩
        go_wp2_with fail
        refine (RR.out _).mono ?_
        rintro e w4 ⟨rfl, q4⟩
        have q5 : Q w w4 := (q2.trans d3.q).trans q4
        clear q2 d3 q4
        go_upto_region 8 with fail
        go_cut [92] from 52 (fun c wx => c = .bool false ∧ wx = w4)
        case first =>
          rcases h1 with ⟨rfl, rfl⟩ | ⟨rfl, rfl⟩ <;> rcases h2 with ⟨rfl, rfl⟩ | ⟨rfl, rfl⟩ <;> (go_wp2_with fail; go_meet; exact ⟨rfl, rfl⟩)
        case rest =>
        obtain ⟨rfl, rfl⟩ := hcut
        clear h1 h2
        go_wp2_with fail
        refine (M.out _ (n1.on q5)).mono ?_
        rintro e w6 ⟨rfl, q6⟩
        have q7 := q5.trans q6
        have c6 := (q7.cell (p := a) ha).trans hcell
        go_wp2_with fail
        refine (X.out _).mono ?_
        rintro e w7 ⟨rfl, q8⟩
        have q8 := q7.trans q8
        go_wp2_with fail
        refine (PX.out _).mono ?_
        rintro e w7' ⟨rfl, rfl⟩
        go_wp2_with fail
        refine (RM.out _).mono ?_
        rintro e w8 ⟨rfl, d8⟩
        have q9 := q8.trans d8.q
        clear d8 c6
        have c8 := (q9.cell (p := a) ha).trans hcell
        go_wp2_with fail
        refine (RX.out _).mono ?_
        rintro e w10 ⟨rfl, q10⟩
        have q11 := q9.trans q10
        clear q10 c8
        have c10 := (q11.cell (p := a) ha).trans hcell
        go_wp2_with fail
        refine (RMA.out _ (n1.on q11)).mono ?_
        rintro e w12 ⟨rfl, q12⟩
        clear c10
        go_wp2_with fail
        refine (awake_any _).mono ?_
        rintro e w13 ⟨rfl, q13⟩
        go_wp2
        go_ret
        exact ⟨rfl, (q11.trans q12).trans q13⟩

set_option maxRecDepth 100000 in
theorem lifted (os : Os) (started : os.Started) (H : Type) (enc : TypeId × Value → H) :
    ReturnsInHanded {} Try.checked os 4 .any (Rows.tagTextsSpec.pre6 enc Try.prog Try.f4 Rows.tagTextsRow.domain false) (Rows.tagTextsSpec.post enc Try.prog Try.f4 false true false false) := by
  refine returnsInHanded_of_change (C := Try.checked) own started (by kernel_rfl) Try.func4
    (ChangeSpec.witness6 (enc := enc) (C := Try.checked) false ⟨#[], #[.slice none 0 0, .string ByteArray.empty], []⟩ 8 (by kernel_rfl) (by kernel_rfl) (by kernel_rfl) (by kernel_rfl)) ?_
  intro W base args ds gs before hval0 hW hcnd _
  have hval : ∀ (j : Nat) t v, Try.f4.params[j]? = some t → args[j]? = some v → Value.okWide Try.prog W .any base t v := hval0
  have hW' := hW
  obtain ⟨p, q, hA0, hV, rfl, hfz, hnd⟩ := hW
  have hA : DataW.TrodAll enc Try.prog W 0 (fun _ => true) true Try.f4.params.toList args.toList ds p := hA0
  rw [Try.params4] at hA hval
  obtain ⟨v0, vs0, d0, ds0, p0, q0, hargs, rfl, rfl, h0, r0⟩ := trodAll_cons hA
  obtain ⟨v1, vs1, d1, ds1, p1, q1, rfl, rfl, rfl, h1, r1⟩ := trodAll_cons r0
  obtain ⟨rfl, rfl, rfl⟩ := trodAll_nil r1
  obtain rfl : args = #[v0, v1] := by cases args; simp_all
  obtain ⟨rfl, rfl⟩ := trodVars_none hV
  clear hA0 hval0
  simp only [List.append_nil] at hW'
  have hlt : ∀ x ∈ p0 ++ p1, x.block < W.heap.size := fun x hx => by simpa using hW'.lt x (by simpa using hx)
  obtain ⟨l0, n0, z0⟩ := open_nums (hval 0 28 v0 rfl rfl) h0
  obtain ⟨a1, rfl, -, -, w1⟩ := open_string Try.underlying9 (hval 1 9 v1 rfl rfl) h1
  refine (walk l0 v0 a1 W n0 z0 w1).mono fun e W' ⟨he, bel⟩ => ?_
  subst he
  refine ⟨_, rfl, _, _, _, [], _, [], hW', trodAll_mk1 (shut_bool Try.underlying4 _), (trodAll_cons_mk (Below.trod laid (by kernel_rfl) (of_decide_eq_true (by kernel_rfl)) h0 bel (fun x hx => hlt x (by simp [hx]))) (trodAll_cons_mk (Below.trod laid (by kernel_rfl) (of_decide_eq_true (by kernel_rfl)) h1 bel (fun x hx => hlt x (by simp [hx]))) trodAll_mk0)), rfl, Below.frame bel _, fun h => by cases h⟩

theorem over : Rows.tagTextsRow.holds Try.pinned (OpenSpec.ofChange Rows.tagTextsSpec) :=
  OpenClaim.holds_of_wide 4 Try.f4 rfl rfl rfl rfl rfl rfl rfl ⟨rfl, rfl, rfl, rfl, rfl⟩ rfl rfl rfl rfl rfl (by kernel_rfl) Try.func4 (by kernel_rfl)
    (of_decide_eq_true (by kernel_rfl)) (by unfold Func.isWrapper; first | (rw [if_pos (by decide +kernel)]; kernel_rfl) | (rw [if_neg (by decide +kernel)]; exact ⟨rfl, rfl⟩))
    (fun os started H enc _ => lifted os started H enc)

theorem proved : Rows.TagTextsSaid := over
#print axioms proved
end Go.Proofs.Ytffhpgdlnohgjaa.tagTexts
