/-
  Proved: whatever list of texts and numbers BlockCuts is called with, it returns true and leaves what it was given as it was. No condition.
-/
import Derived.Test.YtpcanlafbcdmcaaKCutsP
import Derived.Test.YtpcanlafbcdmcaaCoreOpen
namespace Go.Proofs.Ytpcanlafbcdmcaa.blockCuts
set_option maxRecDepth 100000
open Go.ChangeShapes Go.WideShapes Go.ChangeAt Go.RowKit
open Go.ChangeMaps (open_string shut_string)
set_option linter.unusedVariables false
set_option linter.unusedSimpArgs false

theorem nat16 {a : Int} (h : (Lit.int .u16 a).wf = true) : ∃ n : Nat, a = n ∧ n < 65536 := by
  have : 0 ≤ a ∧ a ≤ 65535 := by simpa [Lit.wf, IntKind.min, IntKind.max, IntKind.signed, IntKind.bits] using h
  exact ⟨a.toNat, by omega, by omega⟩
theorem nat8 {a : Int} (h : (Lit.int .u8 a).wf = true) : ∃ n : Nat, a = n ∧ n < 256 := by
  have : 0 ≤ a ∧ a ≤ 255 := by simpa [Lit.wf, IntKind.min, IntKind.max, IntKind.signed, IntKind.bits] using h
  exact ⟨a.toNat, by omega, by omega⟩
attribute [local irreducible] layK joinK fewK manyK cutK blksK allK scanV manyI endsK upK tornK CutP
set_option maxHeartbeats 16000000 in
set_option maxRecDepth 100000 in
theorem walk (a0 : List ByteArray) (v0 : Value) (a1 a2 : Int) (w : World) (t0 : Txts w w.heap.size v0 a0) (w0 : a0.length ≤ maxLen) (s0 : ∀ s ∈ a0, s.size ≤ maxLen) (w1 : (Lit.int .u16 a1).wf = true) (w2 : (Lit.int .u8 a2).wf = true) :
    Calls Try.prog 5 #[v0, .int .u16 a1, .int .u8 a2] w fun e w' => e = .returned (.bool true) ∧ Q w w' := by
  obtain ⟨m, rfl, hm⟩ := nat16 w1
  obtain ⟨tn, rfl, htn⟩ := nat8 w2
  clear w1 w2
  obtain ⟨i0, hi0, hz0, hz1, hz2⟩ := info_parts info_str
  obtain ⟨j0, hj0, hy0, hy1, hy2⟩ := info_parts info_int
  have hl2 : a0.length ≤ 9223372036854775807 := by unfold maxLen at w0; omega
  have HS0 := Lib.hid s0
  have HT0 := Lib.hid t0
  obtain ⟨A0, c0, rfl, -⟩ := t0
  clear s0 w0
  go_enter Try.func5, Try.ntmps5
  go_wp2_with fail
  go_loopw [7, 8, 9, 10] (fun V E R I wr => ∃ (i : Nat) (rs : List ByteArray), i ≤ a0.length ∧ i ≤ 10 ∧ I = .int .i64 i ∧ Hid (rs.length ≤ i ∧ ∀ s ∈ rs, s.size ≤ 12000) ∧ Hid (OwnT w.heap.size wr V (rs.flatMap layK)) ∧ Hid (OwnN w.heap.size wr E (endsK rs)) ∧ Hid (OwnT w.heap.size wr R rs) ∧ Hid (Two V E ∧ Two V R ∧ Two E R) ∧ Hid (Q w wr)) (fun _ _ _ I _ => 10 - (intOf I).toNat)
  case atStart => exact ⟨0, [], Nat.zero_le _, Nat.zero_le _, rfl, Lib.hid ⟨Nat.le_refl _, fun _ h => by cases h⟩, Lib.hid (OwnT.nil _ _), Lib.hid (by rw [endsK_nil]; exact OwnN.nil _ _), Lib.hid (OwnT.nil _ _), Lib.hid ⟨Two.nil _, Two.nil _, Two.nil _⟩, Lib.hid (Q.refl _)⟩
  case round =>
    obtain ⟨i, rs, hi, hi10, rfl, HR, HV, HE, HRS, HW, HQ⟩ := hrel
    obtain ⟨Va, Vc, rfl, hVc⟩ := HV.out.form
    obtain ⟨Ea, Ec, rfl, hE⟩ := HE.out.ends
    obtain ⟨Ra, Rc, rfl, hRc⟩ := HRS.out.form
    have HEC := Lib.hid hE
    clear hE
    have hfl := flat_le rs
    have hrl : rs.length ≤ 10 := by have := HR.out.1; omega
    have HEL := Lib.hid (endsK_length rs)
    obtain ⟨NV, hNV⟩ : ∃ NV, NV = (rs.flatMap layK).length := ⟨_, rfl⟩
    obtain ⟨NR, hNR⟩ : ∃ NR, NR = rs.length := ⟨_, rfl⟩
    rw [← hNV] at HV hVc hfl HW ⊢
    rw [← hNR] at HE HEC HRS hRc hfl hrl HEL HW ⊢
    have HNV := Lib.hid hNV
    have HNR := Lib.hid hNR
    clear hNV hNR
    by_cases hlt : i < a0.length ∧ i < 10
    · obtain ⟨h1, h2⟩ := hlt
      have h1' : (i : Int) < (a0.length : Int) := by omega
      have h2' : (i : Int) < 10 := by omega
      have d1 : decide (i < a0.length) = true := decide_eq_true h1
      have d2 : decide (i < 10) = true := decide_eq_true h2
      obtain ⟨A', c', e, f⟩ := HT0.out
      injection e with e1 e2 e3
      subst e1 e3
      obtain ⟨a, rfl, ha, hc⟩ := f i h1
      have hat : wr.cell? (a.add i) = some (.string a0[i]) := (HQ.out.cell (by rw [add_block]; exact ha)).trans hc
      have hyz := HS0.out _ (List.getElem_mem h1)
      obtain ⟨y, hy⟩ : ∃ y, y = a0[i] := ⟨_, rfl⟩
      rw [← hy] at hat hyz
      have FS := Lib.hid fun w => few_any y w hyz
      have fs := fewK_le y
      obtain ⟨s, hs⟩ : ∃ s, s = fewK y := ⟨_, rfl⟩
      rw [← hs] at FS fs
      clear hs hy hyz f hc
      by_cases hs : 12000 < s.size
      · have LS := Lib.hid fun w => layNo_any s w hs
        clear hs
        go_wp2_with fail
        refine (FS.out _).mono ?_
        rintro e x1 ⟨rfl, d3⟩
        go_wp2_with fail
        refine (LS.out _).mono ?_
        rintro e x2 ⟨rfl, q2⟩
        have Q2 := Lib.hid (d3.q.trans q2)
        clear d3 q2
        go_wp2_with fail
        go_roundw
        case rel =>
          refine ⟨i + 1, rs, by omega, by omega, by go_num, Lib.hid ⟨by have := HR.out.1; omega, HR.out.2⟩, Lib.hid ?_, Lib.hid ?_, Lib.hid ?_, HW, Lib.hid (HQ.out.trans Q2.out)⟩
          · exact HV.out.on Q2.out
          · exact HE.out.on Q2.out
          · exact HRS.out.on Q2.out
        case measure => simp [intOf]; omega
      · have hs12 : s.size ≤ 12000 := by omega
        have LS := Lib.hid fun w => layYes_any s w hs12
        have hmk := manyK_le s.size
        have hpk := manyK_pos hs12
        have hLz := joinK_size _ (layK_size s)
        have hll := layK_length s
        have HCJ := Lib.hid (cut_join _ (layK_size s))
        have HFS := Lib.hid (flat_snoc rs s)
        have HES := Lib.hid (endsK_snoc rs s)
        obtain ⟨J, hJ⟩ : ∃ J, J = joinK (layK s) := ⟨_, rfl⟩
        rw [← hJ] at LS HCJ hLz
        have CJ := Lib.hid fun w => cut_any J w (by omega)
        rw [HCJ.out] at CJ
        obtain ⟨C, hC⟩ : ∃ C, C = layK s := ⟨_, rfl⟩
        rw [← hC] at CJ HFS hll
        have hCl : C.length ≤ 201 := by omega
        have hC0 : 0 < C.length := by omega
        clear hs hJ hC hll hLz HCJ hmk hpk
        go_wp2_with fail
        refine (FS.out _).mono ?_
        rintro e x1 ⟨rfl, d3⟩
        go_wp2_with fail
        refine (LS.out _).mono ?_
        rintro e x2 ⟨rfl, q2⟩
        have Q2 := Lib.hid (d3.q.trans q2)
        clear d3 q2
        go_wp2_with fail
        refine (CJ.out _).mono ?_
        rintro e x3 ⟨A3, c3, rfl, o3, q3⟩
        have Q3 := Lib.hid (Q2.out.trans q3)
        obtain ⟨a3, c3', hv3, -, ha3, hcs3⟩ := o3.tcs.at hC0
        injection hv3 with e31 e32 e33
        subst e31 e33
        have hn3 : ∀ j u, (C.map Value.string)[j]? = some u → x3.cell? (a3.add j) = some u := fun j u hu => by
          rw [List.getElem?_map] at hu
          by_cases hj : j < C.length
          · rw [List.getElem?_eq_getElem hj, Option.map_some] at hu
            injection hu with hu
            rw [← hu]; exact hcs3 j hj
          · rw [List.getElem?_eq_none (by omega)] at hu; cases hu
        have HN3 := Lib.hid hn3
        have hw3 : w.heap.size ≤ x3.heap.size := by have := HQ.out.size; have := Q3.out.size; omega
        have HV3 := Lib.hid (HV.out.on Q3.out)
        have HE3 := Lib.hid (HE.out.on Q3.out)
        have HRS3 := Lib.hid (HRS.out.on Q3.out)
        obtain ⟨NC, hNC⟩ : ∃ NC, NC = C.length := ⟨_, rfl⟩
        rw [← hNC] at hCl hC0 ⊢
        have HNC := Lib.hid hNC
        have hv3l : (rs.flatMap layK).length = NV := HNV.out.symm
        unfold OwnT at HV3
        rw [hv3l] at HV3
        clear q3 e32 hcs3 hn3 o3 hNC hv3l
        go_wp2_with (at_builtin; refine wpList_append_own_at _ rfl _ _ 28 rfl w.heap.size 9 i0 (.string ⟨#[]⟩) 1 16 Try.underlying28 hi0 hz0 hz1 hz2 rfl (by decide) _ NV _ rfl HV3.out a3 NC c3 (C.map Value.string) rfl (by rw [List.length_map, HNC.out, Nat.mul_one]) HN3.out (by intro u hu; obtain ⟨s, -, rfl⟩ := List.mem_map.1 hu; rfl) (by unfold maxLen; omega) (by omega) hw3 ?_; intro v1 y1 ho1 hg1 _ hat1; refine Hid.out ?_)
        refine Lib.hid ?_
        have hV1 : OwnT w.heap.size y1 v1 ((rs ++ [s]).flatMap layK) := by
          unfold OwnT
          rw [HFS.out, List.length_append, List.map_append, ← HNV.out, ← HNC.out]
          exact ho1
        obtain ⟨t1, w1⟩ := two_step HE3.out HW.out.1 hat1 hg1
        obtain ⟨t2, w2⟩ := two_step HRS3.out HW.out.2.1 hat1 hg1
        have hq1 : Below w.heap.size w y1 := (Below.trans HQ.out (Below.mono Q3.out HQ.out.size)).grown hg1 hw3 (fun j ej => (World.ownsRow.lt HV3.out j ej).1)
        have hER := HW.out.2.2
        obtain ⟨V1a, V1c, rfl, -⟩ := hV1.form
        obtain ⟨M1, hM1⟩ : ∃ M1, M1 = ((rs ++ [s]).flatMap layK).length := ⟨_, rfl⟩
        have hM9 : M1 ≤ 5000 := by
          have := flat_le (rs ++ [s])
          rw [List.length_append, List.length_singleton] at this
          have := HNR.out; omega
        rw [← hM1] at hV1 w1 w2 HES ⊢
        have HV1 := Lib.hid hV1
        have HE1 := Lib.hid t1
        have HR1 := Lib.hid t2
        have HW1 := Lib.hid (And.intro w1 (And.intro w2 hER))
        have HQ1 := Lib.hid hq1
        have hs1 := hq1.size
        clear hV1 t1 t2 w1 w2 hq1 hER hM1 ho1 hg1 hat1 HV3 HE3 HRS3 HN3 HV HE HRS HW
        have HA2 : Hid (Q y1 (y1.alloc (.cells #[.int .i64 (M1 : Nat)] 3))) := Lib.hid ((Q.refl y1).alloc _)
        have HE2 : Hid ((y1.alloc (.cells #[.int .i64 (M1 : Nat)] 3)).ownsRow w.heap.size 3 1 (.slice Ea NR Ec) NR ((endsK rs).map fun n => Value.int .i64 (n : Nat))) := Lib.hid (by
          have := OwnN.on HE1.out HA2.out
          unfold OwnN at this
          rw [HEL.out] at this
          exact this)
        have hn2 : ∀ j u, ([Value.int .i64 (M1 : Nat)] : List Value)[j]? = some u → (y1.alloc (.cells #[.int .i64 (M1 : Nat)] 3)).cell? ((⟨y1.heap.size, 0, none⟩ : Addr).add j) = some u := fun j u hu => by
          cases j with
          | zero => injection hu with hu; rw [← hu]; exact (Bx.new y1 3 #[.int .i64 (M1 : Nat)]).cell 0
          | succ j => cases hu
        have HN2 := Lib.hid hn2
        have HWS2 : Hid (w.heap.size ≤ (y1.alloc (.cells #[.int .i64 (M1 : Nat)] 3)).heap.size) := Lib.hid (by rw [World.size_alloc]; omega)
        clear hn2
        go_wp2_with (at_builtin; refine wpList_append_own_at _ rfl _ _ 40 rfl w.heap.size 3 j0 (.int .i64 0) 1 8 Try.underlying40 hj0 hy0 hy1 hy2 rfl (by decide) _ NR _ rfl HE2.out ⟨y1.heap.size, 0, none⟩ 1 1 [Value.int .i64 (M1 : Nat)] rfl rfl HN2.out (by intro u hu; rw [List.mem_singleton.1 hu]; rfl) (by unfold maxLen; omega) (by omega) HWS2.out ?_; intro v2 y2 ho2 hg2 _ hat2; refine Hid.out ?_)
        refine Lib.hid ?_
        have hE2 : OwnN w.heap.size y2 v2 (endsK (rs ++ [s])) := by
          unfold OwnN
          rw [HES.out, List.length_append, List.map_append, HEL.out]
          exact ho2
        obtain ⟨t1, w1⟩ := two_step (OwnT.on HV1.out HA2.out) HW1.out.1.symm hat2 hg2
        obtain ⟨t2, w2⟩ := two_step (OwnT.on HR1.out HA2.out) HW1.out.2.2 hat2 hg2
        have hVR := HW1.out.2.1
        have hq2 : Below w.heap.size w y2 := (Below.trans HQ1.out (Below.mono HA2.out hs1)).grown hg2 HWS2.out (fun j ej => (World.ownsRow.lt HE2.out j ej).1)
        obtain ⟨V2a, V2c, rfl, -⟩ := hE2.form
        have hel2 : (endsK (rs ++ [s])).length = NR + 1 := by rw [endsK_length, List.length_append, List.length_singleton, HNR.out]
        rw [hel2] at hE2 w1 w2 ⊢
        have HV4 := Lib.hid t1
        have HE4 := Lib.hid hE2
        have HR4 := Lib.hid t2
        have HW4 := Lib.hid (And.intro w1.symm (And.intro hVR w2))
        have HQ4 := Lib.hid hq2
        have hs2 := hq2.size
        clear hE2 t1 t2 w1 w2 hq2 hVR ho2 hg2 hat2 HE2 HN2 HA2 HWS2 HV1 HE1 HR1 HW1 HQ1 hs1 hel2
        have HA3 : Hid (Q y2 (y2.alloc (.cells #[.string s] 9))) := Lib.hid ((Q.refl y2).alloc _)
        have HR5 : Hid ((y2.alloc (.cells #[.string s] 9)).ownsRow w.heap.size 9 1 (.slice Ra NR Rc) NR (rs.map Value.string)) := Lib.hid (by
          have := OwnT.on HR4.out HA3.out
          unfold OwnT at this
          rw [← HNR.out] at this
          exact this)
        have hn3 : ∀ j u, ([Value.string s] : List Value)[j]? = some u → (y2.alloc (.cells #[.string s] 9)).cell? ((⟨y2.heap.size, 0, none⟩ : Addr).add j) = some u := fun j u hu => by
          cases j with
          | zero => injection hu with hu; rw [← hu]; exact (Bx.new y2 9 #[.string s]).cell 0
          | succ j => cases hu
        have HN3 := Lib.hid hn3
        have HWS3 : Hid (w.heap.size ≤ (y2.alloc (.cells #[.string s] 9)).heap.size) := Lib.hid (by rw [World.size_alloc]; omega)
        clear hn3
        go_wp2_with (at_builtin; refine wpList_append_own_at _ rfl _ _ 28 rfl w.heap.size 9 i0 (.string ⟨#[]⟩) 1 16 Try.underlying28 hi0 hz0 hz1 hz2 rfl (by decide) _ NR _ rfl HR5.out ⟨y2.heap.size, 0, none⟩ 1 1 [Value.string s] rfl rfl HN3.out (by intro u hu; rw [List.mem_singleton.1 hu]; rfl) (by unfold maxLen; omega) (by omega) HWS3.out ?_; intro v3 y3 ho3 hg3 _ hat3; refine Hid.out ?_)
        refine Lib.hid ?_
        have hR6 : OwnT w.heap.size y3 v3 (rs ++ [s]) := by
          unfold OwnT
          rw [List.length_append, List.map_append, ← HNR.out]
          exact ho3
        obtain ⟨t1, w1⟩ := two_step (OwnT.on HV4.out HA3.out) HW4.out.2.1.symm hat3 hg3
        obtain ⟨t2, w2⟩ := two_step (OwnN.on HE4.out HA3.out) HW4.out.2.2.symm hat3 hg3
        have hVE := HW4.out.1
        have hq3 : Below w.heap.size w y3 := (Below.trans HQ4.out (Below.mono HA3.out hs2)).grown hg3 HWS3.out (fun j ej => (World.ownsRow.lt HR5.out j ej).1)
        obtain ⟨V3a, V3c, rfl, -⟩ := hR6.form
        have hel3 : (rs ++ [s]).length = NR + 1 := by rw [List.length_append, List.length_singleton, HNR.out]
        rw [hel3] at hR6 w1 w2 ⊢
        have HV7 := Lib.hid t1
        have HE7 := Lib.hid t2
        have HR7 := Lib.hid hR6
        have HW7 := Lib.hid (And.intro hVE (And.intro w1.symm w2.symm))
        have HQ7 := Lib.hid hq3
        have HRS9 : Hid ((rs ++ [s]).length ≤ i + 1 ∧ ∀ x ∈ rs ++ [s], x.size ≤ 12000) := Lib.hid ⟨by rw [hel3]; have := HR.out.1; have := HNR.out; omega, fun x hx => by
          rcases List.mem_append.1 hx with hx | hx
          · exact HR.out.2 x hx
          · rw [List.mem_singleton.1 hx]; exact hs12⟩
        clear t1 t2 w1 w2 hVE hq3 ho3 hg3 hat3 HR5 HN3 HA3 HWS3 HV4 HE4 HR4 HW4 HQ4 hs2 hel3 hR6 HR
        go_wp2_with fail
        go_roundw
        case rel => exact ⟨i + 1, rs ++ [s], by omega, by omega, by go_num, HRS9, HV7, HE7, HR7, HW7, HQ7⟩
        case measure => simp [intOf]; omega
    · have hl0 : ¬ (i < a0.length ∧ i < 10) := hlt
      by_cases g1 : i < a0.length
      · have d1 : decide (i < a0.length) = true := decide_eq_true g1
        have d2 : decide (i < 10) = false := decide_eq_false (fun h => hlt ⟨g1, h⟩)
        have d1' : (i : Int) < (a0.length : Int) := by omega
        have d2' : ¬ (i : Int) < 10 := by omega
        clear hlt hl0 g1
        obtain ⟨k, hk⟩ : ∃ k, k = m % (NV + 1) := ⟨_, rfl⟩
        have hkN : k ≤ NV := by rw [hk]; have := Nat.mod_lt m (show 0 < NV + 1 by omega); omega
        have ek : (m : Int) % ((NV : Int) + 1) = (k : Int) := by rw [hk, Int.natCast_emod]; rfl
        have ekt : (m : Int).tmod ((NV : Int) + 1) = (k : Int) := by rw [hk]; rfl
        have HVT := HV
        have hNVc : NV ≤ Vc := hVc
        have hws := HQ.out.size
        clear hk
        go_upto_region 13 with fail
        obtain ⟨wo, hwo⟩ : ∃ x, x = wr := ⟨_, rfl⟩
        subst hwo
        go_cut [15] from 64 to 68 (fun G wx => ∃ Ga Gc, G = .slice Ga k Gc ∧ Hid (OwnT wo.heap.size wx (.slice Ga k Gc) ((rs.flatMap layK).take k)) ∧ Hid (Q wo wx))
        case first =>
          have qe := (Q.refl wo).alloc (.cells #[] 9)
          have O0 : Hid ((wo.alloc (.cells #[] 9)).ownsRow wo.heap.size 9 1 (.slice (some ⟨wo.heap.size, 0, none⟩) 0 0) ([] : List ByteArray).length (([] : List ByteArray).map Value.string)) := Lib.hid ⟨rfl, .inr ⟨_, 0, _, rfl, Nat.le_refl _, Bx.new wo 9 #[], Nat.le_refl _, by unfold maxLen; omega, rfl, rfl⟩⟩
          have HB0 : Hid (wo.heap.size ≤ (wo.alloc (.cells #[] 9)).heap.size) := Lib.hid (by rw [World.size_alloc]; omega)
          have HTL : Hid (([] : List ByteArray).length + ((rs.flatMap layK).take k).length ≤ 1000000) := Lib.hid (by rw [List.length_take]; have := HNV.out; simp; omega)
          have HKL : Hid (((rs.flatMap layK).take k).length = k) := Lib.hid (by rw [List.length_take]; have := HNV.out; omega)
          have QE := Lib.hid qe
          clear qe
          cases Va with
          | none =>
            have hv0 : NV = 0 ∧ Vc = 0 := by
              rcases HV.out.2 with ⟨e, h0⟩ | ⟨g, cap, cur, e, -⟩
              · injection e with e1 e2 e3; exact ⟨e2, e3⟩
              · injection e with e1; cases e1
            obtain ⟨rfl, rfl⟩ := hv0
            obtain rfl : k = 0 := by omega
            have OX : Hid ((wo.alloc (.cells #[] 9)).ownsRow 0 9 1 (.slice none 0 0) ((rs.flatMap layK).take 0).length (((rs.flatMap layK).take 0).map Value.string)) := Lib.hid (World.ownsRow_nil _ _ _ _)
            go_wp2_with (at_builtin; refine wpList_append_txts _ rfl _ _ rfl wo.heap.size _ _ [] ((rs.flatMap layK).take 0) rfl rfl O0.out OX.out HB0.out HTL.out ?_; intro v6 w6 ho6 hg6)
            have ho7 : OwnT wo.heap.size w6 v6 ((rs.flatMap layK).take 0) := ho6
            obtain ⟨A6, c6, rfl, -⟩ := ho7.form
            rw [HKL.out] at ho7
            go_meet
            exact ⟨A6, c6, by rw [HKL.out], Lib.hid ho7, Lib.hid (OwnT.below QE.out HB0.out O0.out hg6)⟩
          | some va =>
            have hvn : 0 < NV ∨ NV = 0 := by omega
            have OX : Hid ((wo.alloc (.cells #[] 9)).ownsRow w.heap.size 9 1 (.slice (some va) k Vc) ((rs.flatMap layK).take k).length (((rs.flatMap layK).take k).map Value.string)) := Lib.hid (OwnT.take' (HV.out.on QE.out) (by rw [← HNV.out]; exact hkN))
            have hkc1 : (k : Int) ≤ (Vc : Int) := by omega
            have hkc2 : k ≤ Vc := by omega
            clear hvn
            go_wp2_with (at_builtin; refine wpList_append_txts _ rfl _ _ rfl wo.heap.size _ _ [] ((rs.flatMap layK).take k) rfl rfl O0.out OX.out HB0.out HTL.out ?_; intro v6 w6 ho6 hg6)
            have ho7 : OwnT wo.heap.size w6 v6 ((rs.flatMap layK).take k) := ho6
            obtain ⟨A6, c6, rfl, -⟩ := ho7.form
            rw [HKL.out] at ho7
            go_meet
            exact ⟨A6, c6, by rw [HKL.out], Lib.hid ho7, Lib.hid (OwnT.below QE.out HB0.out O0.out hg6)⟩
        case rest =>
        obtain ⟨Ga, Gc, rfl, HG, HQ2⟩ := hcut
        rename World => w7
        obtain ⟨nn, hnn⟩ : ∃ nn, nn = tn % 65 := ⟨_, rfl⟩
        have hn64 : nn ≤ 64 := by omega
        have en : (tn : Int) % 65 = (nn : Int) := by omega
        have ent : (tn : Int).tmod 65 = (nn : Int) := by rw [hnn]; rfl
        clear hnn
        go_upto_region 16 with fail
        go_cut [80] from 73 to 80 (fun C wx => ∃ cb : Bool, C = .bool cb ∧ Hid (cb = decide (k < NV ∧ 0 < nn)) ∧ Hid (D w7 wx))
        case first =>
          by_cases g1 : k < NV
          · have g1d : decide (k < NV) = true := decide_eq_true g1
            have g1i : (k : Int) < (NV : Int) := by omega
            by_cases g2 : 0 < nn
            · have g2d : decide (0 < nn) = true := decide_eq_true g2
              have g2i : (0 : Int) < (nn : Int) := by omega
              have HB : Hid (true = decide (k < NV ∧ 0 < nn)) := Lib.hid (by rw [decide_eq_true ⟨g1, g2⟩])
              go_wp2_with fail
              go_meet
              exact ⟨true, rfl, HB, Lib.hid (D.refl _)⟩
            · have g2d : decide (0 < nn) = false := decide_eq_false g2
              have g2i : ¬ (0 : Int) < (nn : Int) := by omega
              have HB : Hid (false = decide (k < NV ∧ 0 < nn)) := Lib.hid (by rw [decide_eq_false (fun h => g2 h.2)])
              go_wp2_with fail
              go_meet
              exact ⟨false, rfl, HB, Lib.hid (D.refl _)⟩
          · have g1d : decide (k < NV) = false := decide_eq_false g1
            have g1i : ¬ (k : Int) < (NV : Int) := by omega
            have HB : Hid (false = decide (k < NV ∧ 0 < nn)) := Lib.hid (by rw [decide_eq_false (fun h => g1 h.1)])
            go_wp2_with fail
            go_meet
            exact ⟨false, rfl, HB, Lib.hid (D.refl _)⟩
        case rest =>
        obtain ⟨cb, rfl, HCB, HD8⟩ := hcut
        rename World => w8
        have HQ8 := Lib.hid (HQ2.out.trans HD8.out.q)
        have HG8 := Lib.hid (HG.out.on HD8.out.q)
        have HCP := Lib.hid (cutP_plain rs HR.out.2 (by have := HNR.out; omega))
        have HCT := Lib.hid (fun k hk x hx hz => cutP_torn rs HR.out.2 (by have := HNR.out; omega) k hk (x := x) hx hz)
        have HLT : Hid (((rs.flatMap layK).take k).length = k) := Lib.hid (by rw [List.length_take]; have := HNV.out; omega)
        clear HG HD8 HQ2
        go_upto_if 80 with fail
        go_cut [15, 16] from 80 to 104 (fun G WH wx => ∃ (GL : List ByteArray) (Wh : Nat) (Ga : Option Addr) (Gc : Nat), G = .slice Ga GL.length Gc ∧ WH = .int .i64 Wh ∧ Hid (CutP rs GL Wh) ∧ Hid (OwnT wo.heap.size wx (.slice Ga GL.length Gc) GL) ∧ Hid (Q wo wx))
        case first =>
          cases cb with
          | false =>
            go_wp2_with fail
            go_meet
            exact ⟨(rs.flatMap layK).take k, k, Ga, Gc, by rw [HLT.out], rfl, Lib.hid (HCP.out k (by have := HNV.out; omega)), Lib.hid (by rw [HLT.out]; exact HG8.out), HQ8⟩
          | true =>
            have hb := HCB.out
            obtain ⟨g1, g2⟩ : k < NV ∧ 0 < nn := of_decide_eq_true hb.symm
            have hkf : k < (rs.flatMap layK).length := by rw [← HNV.out]; exact g1
            obtain ⟨va, vc', hva, -, hva2, hvc⟩ := HV.out.tcs.at (by omega)
            injection hva with e1 e2 e3
            subst e1 e3
            have hcy := hvc k hkf
            have hyz := flat_size rs _ (List.getElem_mem hkf)
            have hy6 := flat_63 rs _ (List.getElem_mem hkf)
            have HTK : Hid ((rs.flatMap layK).take k ++ [(rs.flatMap layK)[k]] = (rs.flatMap layK).take (k + 1)) := Lib.hid (by rw [List.take_succ_eq_append_getElem hkf])
            obtain ⟨y, hy⟩ : ∃ y, y = (rs.flatMap layK)[k] := ⟨_, rfl⟩
            rw [← hy] at hcy hyz hy6 HTK
            have HTC := Lib.hid (tornK_cat y hyz nn hn64)
            have HTO := Lib.hid (torn_or y hyz hy6 nn hn64)
            have HTZ := Lib.hid (torn_size hyz hn64)
            have hO2 := octsB_size 0 1
            have A2 := Lib.hid fun w => all_any 0 1 w (by omega) (by omega) (by omega)
            obtain ⟨O2, hO⟩ : ∃ O2, O2 = octsB 0 1 := ⟨_, rfl⟩
            rw [← hO] at A2 HTC hO2
            obtain ⟨X, hX⟩ : ∃ X, X = tornK y nn := ⟨_, rfl⟩
            rw [← hX] at HTC HTO HTZ
            have hx1 : (y.extract 0 nn).size = nn := by rw [size_cut _ (by omega)]; omega
            have hx2 : (O2.extract nn 64).size = 64 - nn := by rw [size_cut _ (by omega)]
            have hXe : y.extract 0 nn ++ O2.extract nn 64 = X := HTC.out
            have hsum : (y.extract 0 nn).size + (O2.extract nn 64).size ≤ 100000 := by omega
            have hyi : (y.size : Int) = 64 := by omega
            have hoi : (O2.size : Int) = 64 := by omega
            have hO64 : O2.size = 64 := by omega
            have g1i : (k : Int) < (NV : Int) := by omega
            have g2i : (0 : Int) < (nn : Int) := by omega
            have g3i : (nn : Int) ≤ 64 := by omega
            have KS : Hid (∀ x, Q w8 x → (fun (W : World) => W.cell? (va.add k) = some (.string y)) x) := Lib.hid (fun x q => ((HQ8.out.trans q).cell (by rw [add_block]; exact hva2)).trans hcy)
            have HGF := HG8.out
            clear hvc hcy hb e2 hy hX hO HCB hO2
            go_upto_region 17 with fail
            have qd := (Q.refl w8).drew
            refine wp_region_held_drew (S := (fun (W : World) => W.cell? (va.add k) = some (.string y))) (by kernel_rfl) (KS.out _ qd) (fun hHeld => ?_)
            obtain ⟨wd, hwd⟩ : ∃ z, z = w8.drew := ⟨_, rfl⟩
            rw [← hwd] at qd hHeld ⊢
            clear hwd
            refine tkV 0 ?_
            refine tkV 1 ?_
            refine tkV 2 ?_
            refine tkB 3 (.pointer (some (va.add k))) ?_
            refine tkV 4 ?_
            refine tkV 5 ?_
            refine tkB 6 (.string (y.extract 0 nn)) ?_
            refine tkV 8 ?_
            refine aR [7] ?_
            refine AllReadyH.cons (o := _) rfl (fun K hK => ?_) AllReadyH.nil
            go_simp
            go_at_call 22
            refine (A2.out _).mono ?_
            rintro e w9 ⟨rfl, q9⟩
            have q10 := qd.trans q9
            clear hHeld q9
            refine hK.out _ _ (KS.out _ q10) (fun hHeld => ?_)
            clear hK K
            refine pg ?_
            refine tkB 9 (.string (O2.extract nn 64)) ?_
            refine tkB 10 (.string X) ?_
            refine aR [11] ?_
            refine AllReadyH.cons (o := _) rfl (fun K hK => ?_) AllReadyH.nil
            go_simp
            have bx := Bx.new w9 9 #[.string X]
            have q11 := q10.alloc (.cells #[.string X] 9)
            obtain ⟨g, hg⟩ : ∃ g, g = w9.heap.size := ⟨_, rfl⟩
            rw [← hg] at bx
            refine hK.out _ _ (KS.out _ q11) (fun hHeld2 => ?_)
            rw [← hg]
            obtain ⟨wa, hwa⟩ : ∃ z, z = w9.alloc (.cells #[.string X] 9) := ⟨_, rfl⟩
            rw [← hwa] at bx q11 hHeld2 ⊢
            clear hwa hK K hg hHeld q10
            refine pg ?_
            refine aR [12] ?_
            refine AllReadyH.cons (o := _) rfl (fun K hK => ?_) AllReadyH.nil
            rw [if_pos (by rfl)]
            have oa := HG8.out.on q11
            have hbw : wo.heap.size ≤ wa.heap.size := by have := HQ8.out.size; have := q11.size; omega
            refine wp_snoc_txt wa _ _ rfl wo.heap.size g _ ((rs.flatMap layK).take k) X rfl rfl (bx.cell 0) oa hbw (by rw [HLT.out]; omega) ?_
            intro v5 w5 ho5 hg5
            obtain ⟨A5, c5, rfl, hc5⟩ := ho5.form
            have hq5 : Below wo.heap.size wo w5 := OwnT.below (Below.trans HQ8.out (Below.mono q11 (HQ8.out.size))) hbw oa hg5
            have hl5 : ((rs.flatMap layK).take k ++ [X]).length = k + 1 := by rw [List.length_append, HLT.out, List.length_singleton]
            rw [hl5] at ho5 hc5 ⊢
            have HO5 := Lib.hid ho5
            have HQ5 := Lib.hid hq5
            have hcy5 : w5.cell? (va.add k) = some (.string y) := by
              have h1 := KS.out w8 (Q.refl _)
              have h0 : wo.cell? (va.add k) = some (.string y) := by
                rw [← h1]
                exact ((HQ8.out).cell (by rw [add_block]; have := HQ.out.size; omega)).symm
              exact (Below.cell hq5 (by rw [add_block]; have := HQ.out.size; omega)).trans h0
            refine hK.out _ _ (by exact hcy5) (fun hHeld3 => ?_)
            clear hK K hHeld2 q11 bx oa hg5 hq5 hHeld3
            refine pg ?_
            refine tkV 13 ?_
            refine wpAnyH_done (by kernel_rfl) ?_ _
            obtain ⟨a5, c5', hv5, hlc5, h5b, h5c⟩ := HO5.out.tcs.at (by rw [hl5]; omega)
            injection hv5 with e1 e2 e3
            subst e1 e3
            have hcx5 : w5.cell? (a5.add k) = some (.string X) := by
              rw [h5c k (by rw [hl5]; omega)]
              have : ((rs.flatMap layK).take k ++ [X])[k]'(by rw [hl5]; omega) = X := by
                rw [List.getElem_append_right (by rw [HLT.out]; exact Nat.le_refl _)]
                simp
              rw [this]
            have hk5 : (k : Int) < ((k : Int) + 1) := by omega
            have hk6 : k < k + 1 := by omega
            have HL5 := Lib.hid hl5
            have HKF := Lib.hid hkf
            clear e2 h5c hlc5 h5b hl5 hx1 hx2 hkf hXe hsum
            rcases HTO.out with hq | ⟨hq, h63⟩
            · have he : (X.toList == y.toList) = true := by rw [hq]; simp
              have HH : Hid ((rs.flatMap layK).take k ++ [X] = (rs.flatMap layK).take (k + 1)) := Lib.hid (by rw [hq]; exact HTK.out)
              clear hq
              go_upto_region 18 with fail
              go_quiet (fail)
              have HQ6 := Lib.hid (below_drewN HQ5.out nq)
              have HO6 := Lib.hid (HO5.out.on ((Q.refl w5).drewN nq))
              go_wp2_with fail
              go_meet
              refine ⟨(rs.flatMap layK).take (k + 1), k + 1, some a5, c5, by rw [← HH.out, HL5.out], by go_num, Lib.hid (HCP.out (k + 1) (by have := HKF.out; omega)), Lib.hid ?_, HQ6⟩
              rw [← HH.out, HL5.out]; exact HO6.out
            · have he : (X.toList == y.toList) = false := key_ne hq
              have H63 := Lib.hid h63
              clear hq h63
              go_upto_region 18 with fail
              go_quiet (fail)
              have HQ6 := Lib.hid (below_drewN HQ5.out nq)
              have HO6 := Lib.hid (HO5.out.on ((Q.refl w5).drewN nq))
              go_wp2_with fail
              go_meet
              refine ⟨(rs.flatMap layK).take k ++ [X], k, some a5, c5, by rw [HL5.out], rfl, Lib.hid (HCT.out k HKF.out X H63.out HTZ.out), Lib.hid ?_, HQ6⟩
              rw [HL5.out]; exact HO6.out
        case rest =>
        obtain ⟨GL, Wh, Ga2, Gc2, rfl, rfl, HCU, HGO, HQ10⟩ := hcut
        rename World => w10
        have HG2 := HGO
        have hwh : Wh ≤ 3000 := by have := HCU.out.len; omega
        have hGl := HCU.out.len.2
        clear HCP HCT HLT HCB HG8 HQ8
        go_wp2_with fail
        go_loopw [18, 19] (fun I U wr => ∃ q : Nat, q ≤ NR ∧ I = .int .i64 q ∧ U = .int .i64 (upK rs q : Nat) ∧ Hid (upK rs q ≤ Wh) ∧ Hid (D w10 wr)) (fun I _ _ => NR - (intOf I).toNat)
        case atStart => exact ⟨0, Nat.zero_le _, rfl, by rw [upK_zero]; rfl, Lib.hid (by rw [upK_zero]; omega), Lib.hid (D.refl _)⟩
        case round =>
          obtain ⟨q, hq, rfl, rfl, HU, HD⟩ := hrel
          have HQ11 := Lib.hid (HQ10.out.trans HD.out.q)
          by_cases h1 : q < NR
          · obtain ⟨ea, rfl, heb, hec⟩ := HEC.out q h1
            have hat : wr.cell? (ea.add q) = some (.int .i64 (upK rs (q + 1) : Nat)) := (HQ11.out.cell (by rw [add_block]; exact heb)).trans hec
            have h1i : (q : Int) < (NR : Int) := by omega
            have h1d : decide (q < NR) = true := decide_eq_true h1
            obtain ⟨u, hu⟩ : ∃ u, u = upK rs (q + 1) := ⟨_, rfl⟩
            obtain ⟨u0, hu0⟩ : ∃ u, u = upK rs q := ⟨_, rfl⟩
            rw [← hu] at hat
            rw [← hu0]
            have HUU := Lib.hid hu
            have HU0 := Lib.hid hu0
            clear hec hu hu0
            by_cases h2 : u ≤ Wh
            · have h2i : (u : Int) ≤ (Wh : Int) := by omega
              have h2d : decide (u ≤ Wh) = true := decide_eq_true h2
              go_wp2_with fail
              go_roundw
              case rel => exact ⟨q + 1, by omega, by go_num, by rw [HUU.out], Lib.hid (by rw [← HUU.out]; exact h2), HD⟩
              case measure => simp [intOf]; omega
            · have h2i : ¬ (u : Int) ≤ (Wh : Int) := by omega
              have h2d : decide (u ≤ Wh) = false := decide_eq_false h2
              have HSV : Hid (scanV GL = (rs.take q, GL.length - u0, 0)) := Lib.hid (by rw [HU0.out]; exact HCU.out.use q (by rw [← HNR.out]; exact hq) HU.out (fun _ => by rw [← HUU.out]; omega))
              have hu0w : u0 ≤ Wh := by rw [HU0.out]; exact HU.out
              have hgu : u0 ≤ GL.length := by have := HCU.out.len; omega
              obtain ⟨GN, hGN⟩ : ∃ GN, GN = GL.length := ⟨_, rfl⟩
              have SC := Lib.hid (scan_any GL (.slice Ga2 GL.length Gc2) wr (by omega) (HGO.out.on HD.out.q).tcs)
              obtain ⟨tt, htt⟩ : ∃ tt, tt = GL.length - u0 := ⟨_, rfl⟩
              rw [← htt] at HSV
              have ett : (GL.length : Int) - (u0 : Int) = (tt : Int) := by omega
              have ettn : GL.length - u0 = tt := htt.symm
              rw [← hGN] at SC ett ettn hgu hGl ⊢
              have HTK2 : Hid ((rs.take q).length = q) := Lib.hid (by rw [List.length_take, ← HNR.out]; omega)
              have HRx := Lib.hid (fun x (qx : Q wr x) => (HRS.out.on (HQ11.out.trans qx)).tcs)
              have hett : ((tt : Int) == (tt : Int)) = true := by simp
              clear htt hGN HG2 HGO HCU
              go_wp2_with fail
              refine SC.out.mono ?_
              rintro e x2 ⟨A2, c2, rfl, t2, q2⟩
              rw [HSV.out] at t2 ⊢
              simp only at t2 ⊢
              rw [HTK2.out] at t2 ⊢
              have T2 := Lib.hid t2
              have Q2 := Lib.hid ((HQ.out.trans HQ11.out).trans q2)
              have QQ2 := Lib.hid q2
              clear q2 t2
              cases Ra with
              | none =>
                have hv0 : NR = 0 ∧ Rc = 0 := by
                  rcases HRS.out.2 with ⟨e, h0⟩ | ⟨g, cap, cur, e, -⟩
                  · injection e with e1 e2 e3; exact ⟨e2, e3⟩
                  · injection e with e1; cases e1
                have hq0 : q = 0 := by omega
                have SM := Lib.hid (rsame_any (rs.take q) (rs.take q) _ (.slice none 0 0) x2 (by rw [HTK2.out]; omega) (by rw [HTK2.out]; omega) T2.out.txts (by rw [hq0, List.take_zero]; exact Txts.nil _ _))
                rw [show decide (rs.take q = rs.take q) = true by simp] at SM
                obtain ⟨hN0, hR0⟩ := hv0
                have hqi : (q : Int) = 0 := by omega
                subst hq0 hN0 hR0
                go_wp2_with fail
                refine SM.out.mono ?_
                rintro e x3 ⟨rfl, q3⟩
                have Q3 := Lib.hid (Q2.out.trans q3)
                clear q3
                go_wp2_with fail
                refine (awake_any _).mono ?_
                rintro e x9 ⟨rfl, q9⟩
                go_wp2_with fail
                go_ret
                exact ⟨rfl, (Q3.out).trans q9⟩
              | some ra =>
                have hqc : (q : Int) ≤ (Rc : Int) := by omega
                have hqc2 : q ≤ Rc := by omega
                have hRt := HRx.out _ QQ2.out
                have hRt2 := hRt.cutTake (i := q) (by rw [← HNR.out]; exact hq)
                have SM := Lib.hid (rsame_any (rs.take q) (rs.take q) _ _ x2 (by rw [HTK2.out]; omega) (by rw [HTK2.out]; omega) T2.out.txts hRt2.txts)
                rw [show decide (rs.take q = rs.take q) = true by simp] at SM
                clear hRt hRt2
                go_wp2_with fail
                refine SM.out.mono ?_
                rintro e x3 ⟨rfl, q3⟩
                have Q3 := Lib.hid (Q2.out.trans q3)
                clear q3
                go_wp2_with fail
                refine (awake_any _).mono ?_
                rintro e x9 ⟨rfl, q9⟩
                go_wp2_with fail
                go_ret
                exact ⟨rfl, (Q3.out).trans q9⟩
          · have h1i : ¬ (q : Int) < (NR : Int) := by omega
            have h1d : decide (q < NR) = false := decide_eq_false h1
            obtain ⟨u0, hu0⟩ : ∃ u, u = upK rs q := ⟨_, rfl⟩
            rw [← hu0]
            have HU0 := Lib.hid hu0
            clear hu0
            have HSV : Hid (scanV GL = (rs.take q, GL.length - u0, 0)) := Lib.hid (by rw [HU0.out]; exact HCU.out.use q (by rw [← HNR.out]; exact hq) HU.out (fun h => absurd h (by rw [← HNR.out]; exact h1)))
            have hu0w : u0 ≤ Wh := by rw [HU0.out]; exact HU.out
            have hgu : u0 ≤ GL.length := by have := HCU.out.len; omega
            obtain ⟨GN, hGN⟩ : ∃ GN, GN = GL.length := ⟨_, rfl⟩
            have SC := Lib.hid (scan_any GL (.slice Ga2 GL.length Gc2) wr (by omega) (HGO.out.on HD.out.q).tcs)
            obtain ⟨tt, htt⟩ : ∃ tt, tt = GL.length - u0 := ⟨_, rfl⟩
            rw [← htt] at HSV
            have ett : (GL.length : Int) - (u0 : Int) = (tt : Int) := by omega
            have ettn : GL.length - u0 = tt := htt.symm
            rw [← hGN] at SC ett ettn hgu hGl ⊢
            have HTK2 : Hid ((rs.take q).length = q) := Lib.hid (by rw [List.length_take, ← HNR.out]; omega)
            have HRx := Lib.hid (fun x (qx : Q wr x) => (HRS.out.on (HQ11.out.trans qx)).tcs)
            have hett : ((tt : Int) == (tt : Int)) = true := by simp
            clear htt hGN HG2 HGO HCU
            go_wp2_with fail
            refine SC.out.mono ?_
            rintro e x2 ⟨A2, c2, rfl, t2, q2⟩
            rw [HSV.out] at t2 ⊢
            simp only at t2 ⊢
            rw [HTK2.out] at t2 ⊢
            have T2 := Lib.hid t2
            have Q2 := Lib.hid ((HQ.out.trans HQ11.out).trans q2)
            have QQ2 := Lib.hid q2
            clear q2 t2
            cases Ra with
            | none =>
              have hv0 : NR = 0 ∧ Rc = 0 := by
                rcases HRS.out.2 with ⟨e, h0⟩ | ⟨g, cap, cur, e, -⟩
                · injection e with e1 e2 e3; exact ⟨e2, e3⟩
                · injection e with e1; cases e1
              have hq0 : q = 0 := by omega
              have SM := Lib.hid (rsame_any (rs.take q) (rs.take q) _ (.slice none 0 0) x2 (by rw [HTK2.out]; omega) (by rw [HTK2.out]; omega) T2.out.txts (by rw [hq0, List.take_zero]; exact Txts.nil _ _))
              rw [show decide (rs.take q = rs.take q) = true by simp] at SM
              obtain ⟨hN0, hR0⟩ := hv0
              have hqi : (q : Int) = 0 := by omega
              subst hq0 hN0 hR0
              go_wp2_with fail
              refine SM.out.mono ?_
              rintro e x3 ⟨rfl, q3⟩
              have Q3 := Lib.hid (Q2.out.trans q3)
              clear q3
              go_wp2_with fail
              refine (awake_any _).mono ?_
              rintro e x9 ⟨rfl, q9⟩
              go_wp2_with fail
              go_ret
              exact ⟨rfl, (Q3.out).trans q9⟩
            | some ra =>
              have hqc : (q : Int) ≤ (Rc : Int) := by omega
              have hqc2 : q ≤ Rc := by omega
              have hRt := HRx.out _ QQ2.out
              have hRt2 := hRt.cutTake (i := q) (by rw [← HNR.out]; exact hq)
              have SM := Lib.hid (rsame_any (rs.take q) (rs.take q) _ _ x2 (by rw [HTK2.out]; omega) (by rw [HTK2.out]; omega) T2.out.txts hRt2.txts)
              rw [show decide (rs.take q = rs.take q) = true by simp] at SM
              clear hRt hRt2
              go_wp2_with fail
              refine SM.out.mono ?_
              rintro e x3 ⟨rfl, q3⟩
              have Q3 := Lib.hid (Q2.out.trans q3)
              clear q3
              go_wp2_with fail
              refine (awake_any _).mono ?_
              rintro e x9 ⟨rfl, q9⟩
              go_wp2_with fail
              go_ret
              exact ⟨rfl, (Q3.out).trans q9⟩
      · have d1 : decide (i < a0.length) = false := decide_eq_false g1
        have d1' : ¬ (i : Int) < (a0.length : Int) := by omega
        clear hlt hl0 g1
        obtain ⟨k, hk⟩ : ∃ k, k = m % (NV + 1) := ⟨_, rfl⟩
        have hkN : k ≤ NV := by rw [hk]; have := Nat.mod_lt m (show 0 < NV + 1 by omega); omega
        have ek : (m : Int) % ((NV : Int) + 1) = (k : Int) := by rw [hk, Int.natCast_emod]; rfl
        have ekt : (m : Int).tmod ((NV : Int) + 1) = (k : Int) := by rw [hk]; rfl
        have HVT := HV
        have hNVc : NV ≤ Vc := hVc
        have hws := HQ.out.size
        clear hk
        go_upto_region 13 with fail
        obtain ⟨wo, hwo⟩ : ∃ x, x = wr := ⟨_, rfl⟩
        subst hwo
        go_cut [15] from 64 to 68 (fun G wx => ∃ Ga Gc, G = .slice Ga k Gc ∧ Hid (OwnT wo.heap.size wx (.slice Ga k Gc) ((rs.flatMap layK).take k)) ∧ Hid (Q wo wx))
        case first =>
          have qe := (Q.refl wo).alloc (.cells #[] 9)
          have O0 : Hid ((wo.alloc (.cells #[] 9)).ownsRow wo.heap.size 9 1 (.slice (some ⟨wo.heap.size, 0, none⟩) 0 0) ([] : List ByteArray).length (([] : List ByteArray).map Value.string)) := Lib.hid ⟨rfl, .inr ⟨_, 0, _, rfl, Nat.le_refl _, Bx.new wo 9 #[], Nat.le_refl _, by unfold maxLen; omega, rfl, rfl⟩⟩
          have HB0 : Hid (wo.heap.size ≤ (wo.alloc (.cells #[] 9)).heap.size) := Lib.hid (by rw [World.size_alloc]; omega)
          have HTL : Hid (([] : List ByteArray).length + ((rs.flatMap layK).take k).length ≤ 1000000) := Lib.hid (by rw [List.length_take]; have := HNV.out; simp; omega)
          have HKL : Hid (((rs.flatMap layK).take k).length = k) := Lib.hid (by rw [List.length_take]; have := HNV.out; omega)
          have QE := Lib.hid qe
          clear qe
          cases Va with
          | none =>
            have hv0 : NV = 0 ∧ Vc = 0 := by
              rcases HV.out.2 with ⟨e, h0⟩ | ⟨g, cap, cur, e, -⟩
              · injection e with e1 e2 e3; exact ⟨e2, e3⟩
              · injection e with e1; cases e1
            obtain ⟨rfl, rfl⟩ := hv0
            obtain rfl : k = 0 := by omega
            have OX : Hid ((wo.alloc (.cells #[] 9)).ownsRow 0 9 1 (.slice none 0 0) ((rs.flatMap layK).take 0).length (((rs.flatMap layK).take 0).map Value.string)) := Lib.hid (World.ownsRow_nil _ _ _ _)
            go_wp2_with (at_builtin; refine wpList_append_txts _ rfl _ _ rfl wo.heap.size _ _ [] ((rs.flatMap layK).take 0) rfl rfl O0.out OX.out HB0.out HTL.out ?_; intro v6 w6 ho6 hg6)
            have ho7 : OwnT wo.heap.size w6 v6 ((rs.flatMap layK).take 0) := ho6
            obtain ⟨A6, c6, rfl, -⟩ := ho7.form
            rw [HKL.out] at ho7
            go_meet
            exact ⟨A6, c6, by rw [HKL.out], Lib.hid ho7, Lib.hid (OwnT.below QE.out HB0.out O0.out hg6)⟩
          | some va =>
            have hvn : 0 < NV ∨ NV = 0 := by omega
            have OX : Hid ((wo.alloc (.cells #[] 9)).ownsRow w.heap.size 9 1 (.slice (some va) k Vc) ((rs.flatMap layK).take k).length (((rs.flatMap layK).take k).map Value.string)) := Lib.hid (OwnT.take' (HV.out.on QE.out) (by rw [← HNV.out]; exact hkN))
            have hkc1 : (k : Int) ≤ (Vc : Int) := by omega
            have hkc2 : k ≤ Vc := by omega
            clear hvn
            go_wp2_with (at_builtin; refine wpList_append_txts _ rfl _ _ rfl wo.heap.size _ _ [] ((rs.flatMap layK).take k) rfl rfl O0.out OX.out HB0.out HTL.out ?_; intro v6 w6 ho6 hg6)
            have ho7 : OwnT wo.heap.size w6 v6 ((rs.flatMap layK).take k) := ho6
            obtain ⟨A6, c6, rfl, -⟩ := ho7.form
            rw [HKL.out] at ho7
            go_meet
            exact ⟨A6, c6, by rw [HKL.out], Lib.hid ho7, Lib.hid (OwnT.below QE.out HB0.out O0.out hg6)⟩
        case rest =>
        obtain ⟨Ga, Gc, rfl, HG, HQ2⟩ := hcut
        rename World => w7
        obtain ⟨nn, hnn⟩ : ∃ nn, nn = tn % 65 := ⟨_, rfl⟩
        have hn64 : nn ≤ 64 := by omega
        have en : (tn : Int) % 65 = (nn : Int) := by omega
        have ent : (tn : Int).tmod 65 = (nn : Int) := by rw [hnn]; rfl
        clear hnn
        go_upto_region 16 with fail
        go_cut [80] from 73 to 80 (fun C wx => ∃ cb : Bool, C = .bool cb ∧ Hid (cb = decide (k < NV ∧ 0 < nn)) ∧ Hid (D w7 wx))
        case first =>
          by_cases g1 : k < NV
          · have g1d : decide (k < NV) = true := decide_eq_true g1
            have g1i : (k : Int) < (NV : Int) := by omega
            by_cases g2 : 0 < nn
            · have g2d : decide (0 < nn) = true := decide_eq_true g2
              have g2i : (0 : Int) < (nn : Int) := by omega
              have HB : Hid (true = decide (k < NV ∧ 0 < nn)) := Lib.hid (by rw [decide_eq_true ⟨g1, g2⟩])
              go_wp2_with fail
              go_meet
              exact ⟨true, rfl, HB, Lib.hid (D.refl _)⟩
            · have g2d : decide (0 < nn) = false := decide_eq_false g2
              have g2i : ¬ (0 : Int) < (nn : Int) := by omega
              have HB : Hid (false = decide (k < NV ∧ 0 < nn)) := Lib.hid (by rw [decide_eq_false (fun h => g2 h.2)])
              go_wp2_with fail
              go_meet
              exact ⟨false, rfl, HB, Lib.hid (D.refl _)⟩
          · have g1d : decide (k < NV) = false := decide_eq_false g1
            have g1i : ¬ (k : Int) < (NV : Int) := by omega
            have HB : Hid (false = decide (k < NV ∧ 0 < nn)) := Lib.hid (by rw [decide_eq_false (fun h => g1 h.1)])
            go_wp2_with fail
            go_meet
            exact ⟨false, rfl, HB, Lib.hid (D.refl _)⟩
        case rest =>
        obtain ⟨cb, rfl, HCB, HD8⟩ := hcut
        rename World => w8
        have HQ8 := Lib.hid (HQ2.out.trans HD8.out.q)
        have HG8 := Lib.hid (HG.out.on HD8.out.q)
        have HCP := Lib.hid (cutP_plain rs HR.out.2 (by have := HNR.out; omega))
        have HCT := Lib.hid (fun k hk x hx hz => cutP_torn rs HR.out.2 (by have := HNR.out; omega) k hk (x := x) hx hz)
        have HLT : Hid (((rs.flatMap layK).take k).length = k) := Lib.hid (by rw [List.length_take]; have := HNV.out; omega)
        clear HG HD8 HQ2
        go_upto_if 80 with fail
        go_cut [15, 16] from 80 to 104 (fun G WH wx => ∃ (GL : List ByteArray) (Wh : Nat) (Ga : Option Addr) (Gc : Nat), G = .slice Ga GL.length Gc ∧ WH = .int .i64 Wh ∧ Hid (CutP rs GL Wh) ∧ Hid (OwnT wo.heap.size wx (.slice Ga GL.length Gc) GL) ∧ Hid (Q wo wx))
        case first =>
          cases cb with
          | false =>
            go_wp2_with fail
            go_meet
            exact ⟨(rs.flatMap layK).take k, k, Ga, Gc, by rw [HLT.out], rfl, Lib.hid (HCP.out k (by have := HNV.out; omega)), Lib.hid (by rw [HLT.out]; exact HG8.out), HQ8⟩
          | true =>
            have hb := HCB.out
            obtain ⟨g1, g2⟩ : k < NV ∧ 0 < nn := of_decide_eq_true hb.symm
            have hkf : k < (rs.flatMap layK).length := by rw [← HNV.out]; exact g1
            obtain ⟨va, vc', hva, -, hva2, hvc⟩ := HV.out.tcs.at (by omega)
            injection hva with e1 e2 e3
            subst e1 e3
            have hcy := hvc k hkf
            have hyz := flat_size rs _ (List.getElem_mem hkf)
            have hy6 := flat_63 rs _ (List.getElem_mem hkf)
            have HTK : Hid ((rs.flatMap layK).take k ++ [(rs.flatMap layK)[k]] = (rs.flatMap layK).take (k + 1)) := Lib.hid (by rw [List.take_succ_eq_append_getElem hkf])
            obtain ⟨y, hy⟩ : ∃ y, y = (rs.flatMap layK)[k] := ⟨_, rfl⟩
            rw [← hy] at hcy hyz hy6 HTK
            have HTC := Lib.hid (tornK_cat y hyz nn hn64)
            have HTO := Lib.hid (torn_or y hyz hy6 nn hn64)
            have HTZ := Lib.hid (torn_size hyz hn64)
            have hO2 := octsB_size 0 1
            have A2 := Lib.hid fun w => all_any 0 1 w (by omega) (by omega) (by omega)
            obtain ⟨O2, hO⟩ : ∃ O2, O2 = octsB 0 1 := ⟨_, rfl⟩
            rw [← hO] at A2 HTC hO2
            obtain ⟨X, hX⟩ : ∃ X, X = tornK y nn := ⟨_, rfl⟩
            rw [← hX] at HTC HTO HTZ
            have hx1 : (y.extract 0 nn).size = nn := by rw [size_cut _ (by omega)]; omega
            have hx2 : (O2.extract nn 64).size = 64 - nn := by rw [size_cut _ (by omega)]
            have hXe : y.extract 0 nn ++ O2.extract nn 64 = X := HTC.out
            have hsum : (y.extract 0 nn).size + (O2.extract nn 64).size ≤ 100000 := by omega
            have hyi : (y.size : Int) = 64 := by omega
            have hoi : (O2.size : Int) = 64 := by omega
            have hO64 : O2.size = 64 := by omega
            have g1i : (k : Int) < (NV : Int) := by omega
            have g2i : (0 : Int) < (nn : Int) := by omega
            have g3i : (nn : Int) ≤ 64 := by omega
            have KS : Hid (∀ x, Q w8 x → (fun (W : World) => W.cell? (va.add k) = some (.string y)) x) := Lib.hid (fun x q => ((HQ8.out.trans q).cell (by rw [add_block]; exact hva2)).trans hcy)
            have HGF := HG8.out
            clear hvc hcy hb e2 hy hX hO HCB hO2
            go_upto_region 17 with fail
            have qd := (Q.refl w8).drew
            refine wp_region_held_drew (S := (fun (W : World) => W.cell? (va.add k) = some (.string y))) (by kernel_rfl) (KS.out _ qd) (fun hHeld => ?_)
            obtain ⟨wd, hwd⟩ : ∃ z, z = w8.drew := ⟨_, rfl⟩
            rw [← hwd] at qd hHeld ⊢
            clear hwd
            refine tkV 0 ?_
            refine tkV 1 ?_
            refine tkV 2 ?_
            refine tkB 3 (.pointer (some (va.add k))) ?_
            refine tkV 4 ?_
            refine tkV 5 ?_
            refine tkB 6 (.string (y.extract 0 nn)) ?_
            refine tkV 8 ?_
            refine aR [7] ?_
            refine AllReadyH.cons (o := _) rfl (fun K hK => ?_) AllReadyH.nil
            go_simp
            go_at_call 22
            refine (A2.out _).mono ?_
            rintro e w9 ⟨rfl, q9⟩
            have q10 := qd.trans q9
            clear hHeld q9
            refine hK.out _ _ (KS.out _ q10) (fun hHeld => ?_)
            clear hK K
            refine pg ?_
            refine tkB 9 (.string (O2.extract nn 64)) ?_
            refine tkB 10 (.string X) ?_
            refine aR [11] ?_
            refine AllReadyH.cons (o := _) rfl (fun K hK => ?_) AllReadyH.nil
            go_simp
            have bx := Bx.new w9 9 #[.string X]
            have q11 := q10.alloc (.cells #[.string X] 9)
            obtain ⟨g, hg⟩ : ∃ g, g = w9.heap.size := ⟨_, rfl⟩
            rw [← hg] at bx
            refine hK.out _ _ (KS.out _ q11) (fun hHeld2 => ?_)
            rw [← hg]
            obtain ⟨wa, hwa⟩ : ∃ z, z = w9.alloc (.cells #[.string X] 9) := ⟨_, rfl⟩
            rw [← hwa] at bx q11 hHeld2 ⊢
            clear hwa hK K hg hHeld q10
            refine pg ?_
            refine aR [12] ?_
            refine AllReadyH.cons (o := _) rfl (fun K hK => ?_) AllReadyH.nil
            rw [if_pos (by rfl)]
            have oa := HG8.out.on q11
            have hbw : wo.heap.size ≤ wa.heap.size := by have := HQ8.out.size; have := q11.size; omega
            refine wp_snoc_txt wa _ _ rfl wo.heap.size g _ ((rs.flatMap layK).take k) X rfl rfl (bx.cell 0) oa hbw (by rw [HLT.out]; omega) ?_
            intro v5 w5 ho5 hg5
            obtain ⟨A5, c5, rfl, hc5⟩ := ho5.form
            have hq5 : Below wo.heap.size wo w5 := OwnT.below (Below.trans HQ8.out (Below.mono q11 (HQ8.out.size))) hbw oa hg5
            have hl5 : ((rs.flatMap layK).take k ++ [X]).length = k + 1 := by rw [List.length_append, HLT.out, List.length_singleton]
            rw [hl5] at ho5 hc5 ⊢
            have HO5 := Lib.hid ho5
            have HQ5 := Lib.hid hq5
            have hcy5 : w5.cell? (va.add k) = some (.string y) := by
              have h1 := KS.out w8 (Q.refl _)
              have h0 : wo.cell? (va.add k) = some (.string y) := by
                rw [← h1]
                exact ((HQ8.out).cell (by rw [add_block]; have := HQ.out.size; omega)).symm
              exact (Below.cell hq5 (by rw [add_block]; have := HQ.out.size; omega)).trans h0
            refine hK.out _ _ (by exact hcy5) (fun hHeld3 => ?_)
            clear hK K hHeld2 q11 bx oa hg5 hq5 hHeld3
            refine pg ?_
            refine tkV 13 ?_
            refine wpAnyH_done (by kernel_rfl) ?_ _
            obtain ⟨a5, c5', hv5, hlc5, h5b, h5c⟩ := HO5.out.tcs.at (by rw [hl5]; omega)
            injection hv5 with e1 e2 e3
            subst e1 e3
            have hcx5 : w5.cell? (a5.add k) = some (.string X) := by
              rw [h5c k (by rw [hl5]; omega)]
              have : ((rs.flatMap layK).take k ++ [X])[k]'(by rw [hl5]; omega) = X := by
                rw [List.getElem_append_right (by rw [HLT.out]; exact Nat.le_refl _)]
                simp
              rw [this]
            have hk5 : (k : Int) < ((k : Int) + 1) := by omega
            have hk6 : k < k + 1 := by omega
            have HL5 := Lib.hid hl5
            have HKF := Lib.hid hkf
            clear e2 h5c hlc5 h5b hl5 hx1 hx2 hkf hXe hsum
            rcases HTO.out with hq | ⟨hq, h63⟩
            · have he : (X.toList == y.toList) = true := by rw [hq]; simp
              have HH : Hid ((rs.flatMap layK).take k ++ [X] = (rs.flatMap layK).take (k + 1)) := Lib.hid (by rw [hq]; exact HTK.out)
              clear hq
              go_upto_region 18 with fail
              go_quiet (fail)
              have HQ6 := Lib.hid (below_drewN HQ5.out nq)
              have HO6 := Lib.hid (HO5.out.on ((Q.refl w5).drewN nq))
              go_wp2_with fail
              go_meet
              refine ⟨(rs.flatMap layK).take (k + 1), k + 1, some a5, c5, by rw [← HH.out, HL5.out], by go_num, Lib.hid (HCP.out (k + 1) (by have := HKF.out; omega)), Lib.hid ?_, HQ6⟩
              rw [← HH.out, HL5.out]; exact HO6.out
            · have he : (X.toList == y.toList) = false := key_ne hq
              have H63 := Lib.hid h63
              clear hq h63
              go_upto_region 18 with fail
              go_quiet (fail)
              have HQ6 := Lib.hid (below_drewN HQ5.out nq)
              have HO6 := Lib.hid (HO5.out.on ((Q.refl w5).drewN nq))
              go_wp2_with fail
              go_meet
              refine ⟨(rs.flatMap layK).take k ++ [X], k, some a5, c5, by rw [HL5.out], rfl, Lib.hid (HCT.out k HKF.out X H63.out HTZ.out), Lib.hid ?_, HQ6⟩
              rw [HL5.out]; exact HO6.out
        case rest =>
        obtain ⟨GL, Wh, Ga2, Gc2, rfl, rfl, HCU, HGO, HQ10⟩ := hcut
        rename World => w10
        have HG2 := HGO
        have hwh : Wh ≤ 3000 := by have := HCU.out.len; omega
        have hGl := HCU.out.len.2
        clear HCP HCT HLT HCB HG8 HQ8
        go_wp2_with fail
        go_loopw [18, 19] (fun I U wr => ∃ q : Nat, q ≤ NR ∧ I = .int .i64 q ∧ U = .int .i64 (upK rs q : Nat) ∧ Hid (upK rs q ≤ Wh) ∧ Hid (D w10 wr)) (fun I _ _ => NR - (intOf I).toNat)
        case atStart => exact ⟨0, Nat.zero_le _, rfl, by rw [upK_zero]; rfl, Lib.hid (by rw [upK_zero]; omega), Lib.hid (D.refl _)⟩
        case round =>
          obtain ⟨q, hq, rfl, rfl, HU, HD⟩ := hrel
          have HQ11 := Lib.hid (HQ10.out.trans HD.out.q)
          by_cases h1 : q < NR
          · obtain ⟨ea, rfl, heb, hec⟩ := HEC.out q h1
            have hat : wr.cell? (ea.add q) = some (.int .i64 (upK rs (q + 1) : Nat)) := (HQ11.out.cell (by rw [add_block]; exact heb)).trans hec
            have h1i : (q : Int) < (NR : Int) := by omega
            have h1d : decide (q < NR) = true := decide_eq_true h1
            obtain ⟨u, hu⟩ : ∃ u, u = upK rs (q + 1) := ⟨_, rfl⟩
            obtain ⟨u0, hu0⟩ : ∃ u, u = upK rs q := ⟨_, rfl⟩
            rw [← hu] at hat
            rw [← hu0]
            have HUU := Lib.hid hu
            have HU0 := Lib.hid hu0
            clear hec hu hu0
            by_cases h2 : u ≤ Wh
            · have h2i : (u : Int) ≤ (Wh : Int) := by omega
              have h2d : decide (u ≤ Wh) = true := decide_eq_true h2
              go_wp2_with fail
              go_roundw
              case rel => exact ⟨q + 1, by omega, by go_num, by rw [HUU.out], Lib.hid (by rw [← HUU.out]; exact h2), HD⟩
              case measure => simp [intOf]; omega
            · have h2i : ¬ (u : Int) ≤ (Wh : Int) := by omega
              have h2d : decide (u ≤ Wh) = false := decide_eq_false h2
              have HSV : Hid (scanV GL = (rs.take q, GL.length - u0, 0)) := Lib.hid (by rw [HU0.out]; exact HCU.out.use q (by rw [← HNR.out]; exact hq) HU.out (fun _ => by rw [← HUU.out]; omega))
              have hu0w : u0 ≤ Wh := by rw [HU0.out]; exact HU.out
              have hgu : u0 ≤ GL.length := by have := HCU.out.len; omega
              obtain ⟨GN, hGN⟩ : ∃ GN, GN = GL.length := ⟨_, rfl⟩
              have SC := Lib.hid (scan_any GL (.slice Ga2 GL.length Gc2) wr (by omega) (HGO.out.on HD.out.q).tcs)
              obtain ⟨tt, htt⟩ : ∃ tt, tt = GL.length - u0 := ⟨_, rfl⟩
              rw [← htt] at HSV
              have ett : (GL.length : Int) - (u0 : Int) = (tt : Int) := by omega
              have ettn : GL.length - u0 = tt := htt.symm
              rw [← hGN] at SC ett ettn hgu hGl ⊢
              have HTK2 : Hid ((rs.take q).length = q) := Lib.hid (by rw [List.length_take, ← HNR.out]; omega)
              have HRx := Lib.hid (fun x (qx : Q wr x) => (HRS.out.on (HQ11.out.trans qx)).tcs)
              have hett : ((tt : Int) == (tt : Int)) = true := by simp
              clear htt hGN HG2 HGO HCU
              go_wp2_with fail
              refine SC.out.mono ?_
              rintro e x2 ⟨A2, c2, rfl, t2, q2⟩
              rw [HSV.out] at t2 ⊢
              simp only at t2 ⊢
              rw [HTK2.out] at t2 ⊢
              have T2 := Lib.hid t2
              have Q2 := Lib.hid ((HQ.out.trans HQ11.out).trans q2)
              have QQ2 := Lib.hid q2
              clear q2 t2
              cases Ra with
              | none =>
                have hv0 : NR = 0 ∧ Rc = 0 := by
                  rcases HRS.out.2 with ⟨e, h0⟩ | ⟨g, cap, cur, e, -⟩
                  · injection e with e1 e2 e3; exact ⟨e2, e3⟩
                  · injection e with e1; cases e1
                have hq0 : q = 0 := by omega
                have SM := Lib.hid (rsame_any (rs.take q) (rs.take q) _ (.slice none 0 0) x2 (by rw [HTK2.out]; omega) (by rw [HTK2.out]; omega) T2.out.txts (by rw [hq0, List.take_zero]; exact Txts.nil _ _))
                rw [show decide (rs.take q = rs.take q) = true by simp] at SM
                obtain ⟨hN0, hR0⟩ := hv0
                have hqi : (q : Int) = 0 := by omega
                subst hq0 hN0 hR0
                go_wp2_with fail
                refine SM.out.mono ?_
                rintro e x3 ⟨rfl, q3⟩
                have Q3 := Lib.hid (Q2.out.trans q3)
                clear q3
                go_wp2_with fail
                refine (awake_any _).mono ?_
                rintro e x9 ⟨rfl, q9⟩
                go_wp2_with fail
                go_ret
                exact ⟨rfl, (Q3.out).trans q9⟩
              | some ra =>
                have hqc : (q : Int) ≤ (Rc : Int) := by omega
                have hqc2 : q ≤ Rc := by omega
                have hRt := HRx.out _ QQ2.out
                have hRt2 := hRt.cutTake (i := q) (by rw [← HNR.out]; exact hq)
                have SM := Lib.hid (rsame_any (rs.take q) (rs.take q) _ _ x2 (by rw [HTK2.out]; omega) (by rw [HTK2.out]; omega) T2.out.txts hRt2.txts)
                rw [show decide (rs.take q = rs.take q) = true by simp] at SM
                clear hRt hRt2
                go_wp2_with fail
                refine SM.out.mono ?_
                rintro e x3 ⟨rfl, q3⟩
                have Q3 := Lib.hid (Q2.out.trans q3)
                clear q3
                go_wp2_with fail
                refine (awake_any _).mono ?_
                rintro e x9 ⟨rfl, q9⟩
                go_wp2_with fail
                go_ret
                exact ⟨rfl, (Q3.out).trans q9⟩
          · have h1i : ¬ (q : Int) < (NR : Int) := by omega
            have h1d : decide (q < NR) = false := decide_eq_false h1
            obtain ⟨u0, hu0⟩ : ∃ u, u = upK rs q := ⟨_, rfl⟩
            rw [← hu0]
            have HU0 := Lib.hid hu0
            clear hu0
            have HSV : Hid (scanV GL = (rs.take q, GL.length - u0, 0)) := Lib.hid (by rw [HU0.out]; exact HCU.out.use q (by rw [← HNR.out]; exact hq) HU.out (fun h => absurd h (by rw [← HNR.out]; exact h1)))
            have hu0w : u0 ≤ Wh := by rw [HU0.out]; exact HU.out
            have hgu : u0 ≤ GL.length := by have := HCU.out.len; omega
            obtain ⟨GN, hGN⟩ : ∃ GN, GN = GL.length := ⟨_, rfl⟩
            have SC := Lib.hid (scan_any GL (.slice Ga2 GL.length Gc2) wr (by omega) (HGO.out.on HD.out.q).tcs)
            obtain ⟨tt, htt⟩ : ∃ tt, tt = GL.length - u0 := ⟨_, rfl⟩
            rw [← htt] at HSV
            have ett : (GL.length : Int) - (u0 : Int) = (tt : Int) := by omega
            have ettn : GL.length - u0 = tt := htt.symm
            rw [← hGN] at SC ett ettn hgu hGl ⊢
            have HTK2 : Hid ((rs.take q).length = q) := Lib.hid (by rw [List.length_take, ← HNR.out]; omega)
            have HRx := Lib.hid (fun x (qx : Q wr x) => (HRS.out.on (HQ11.out.trans qx)).tcs)
            have hett : ((tt : Int) == (tt : Int)) = true := by simp
            clear htt hGN HG2 HGO HCU
            go_wp2_with fail
            refine SC.out.mono ?_
            rintro e x2 ⟨A2, c2, rfl, t2, q2⟩
            rw [HSV.out] at t2 ⊢
            simp only at t2 ⊢
            rw [HTK2.out] at t2 ⊢
            have T2 := Lib.hid t2
            have Q2 := Lib.hid ((HQ.out.trans HQ11.out).trans q2)
            have QQ2 := Lib.hid q2
            clear q2 t2
            cases Ra with
            | none =>
              have hv0 : NR = 0 ∧ Rc = 0 := by
                rcases HRS.out.2 with ⟨e, h0⟩ | ⟨g, cap, cur, e, -⟩
                · injection e with e1 e2 e3; exact ⟨e2, e3⟩
                · injection e with e1; cases e1
              have hq0 : q = 0 := by omega
              have SM := Lib.hid (rsame_any (rs.take q) (rs.take q) _ (.slice none 0 0) x2 (by rw [HTK2.out]; omega) (by rw [HTK2.out]; omega) T2.out.txts (by rw [hq0, List.take_zero]; exact Txts.nil _ _))
              rw [show decide (rs.take q = rs.take q) = true by simp] at SM
              obtain ⟨hN0, hR0⟩ := hv0
              have hqi : (q : Int) = 0 := by omega
              subst hq0 hN0 hR0
              go_wp2_with fail
              refine SM.out.mono ?_
              rintro e x3 ⟨rfl, q3⟩
              have Q3 := Lib.hid (Q2.out.trans q3)
              clear q3
              go_wp2_with fail
              refine (awake_any _).mono ?_
              rintro e x9 ⟨rfl, q9⟩
              go_wp2_with fail
              go_ret
              exact ⟨rfl, (Q3.out).trans q9⟩
            | some ra =>
              have hqc : (q : Int) ≤ (Rc : Int) := by omega
              have hqc2 : q ≤ Rc := by omega
              have hRt := HRx.out _ QQ2.out
              have hRt2 := hRt.cutTake (i := q) (by rw [← HNR.out]; exact hq)
              have SM := Lib.hid (rsame_any (rs.take q) (rs.take q) _ _ x2 (by rw [HTK2.out]; omega) (by rw [HTK2.out]; omega) T2.out.txts hRt2.txts)
              rw [show decide (rs.take q = rs.take q) = true by simp] at SM
              clear hRt hRt2
              go_wp2_with fail
              refine SM.out.mono ?_
              rintro e x3 ⟨rfl, q3⟩
              have Q3 := Lib.hid (Q2.out.trans q3)
              clear q3
              go_wp2_with fail
              refine (awake_any _).mono ?_
              rintro e x9 ⟨rfl, q9⟩
              go_wp2_with fail
              go_ret
              exact ⟨rfl, (Q3.out).trans q9⟩

set_option maxRecDepth 100000 in
theorem lifted (os : Os) (started : os.Started) (H : Type) (enc : TypeId × Value → H) :
    ReturnsInHanded {} Try.checked os 5 .any (Rows.blockCutsSpec.pre6 enc Try.prog Try.f5 Rows.blockCutsRow.domain false) (Rows.blockCutsSpec.post enc Try.prog Try.f5 false true false false) := by
  refine returnsInHanded_of_change (C := Try.checked) own started (by kernel_rfl) Try.func5
    (ChangeSpec.witness6 (enc := enc) (C := Try.checked) false ⟨#[], #[.slice none 0 0, .int .u16 0, .int .u8 0], []⟩ 8 (by kernel_rfl) (by kernel_rfl) (by kernel_rfl) (by kernel_rfl)) ?_
  intro W base args ds gs before hval0 hW hcnd _
  have hval : ∀ (j : Nat) t v, Try.f5.params[j]? = some t → args[j]? = some v → Value.okWide Try.prog W .any base t v := hval0
  have hW' := hW
  obtain ⟨p, q, hA0, hV, rfl, hfz, hnd⟩ := hW
  have hA : DataW.TrodAll enc Try.prog W 0 (fun _ => true) true Try.f5.params.toList args.toList ds p := hA0
  rw [Try.params5] at hA hval
  obtain ⟨v0, vs0, d0, ds0, p0, q0, hargs, rfl, rfl, h0, r0⟩ := trodAll_cons hA
  obtain ⟨v1, vs1, d1, ds1, p1, q1, rfl, rfl, rfl, h1, r1⟩ := trodAll_cons r0
  obtain ⟨v2, vs2, d2, ds2, p2, q2, rfl, rfl, rfl, h2, r2⟩ := trodAll_cons r1
  obtain ⟨rfl, rfl, rfl⟩ := trodAll_nil r2
  obtain rfl : args = #[v0, v1, v2] := by cases args; simp_all
  obtain ⟨rfl, rfl⟩ := trodVars_none hV
  clear hA0 hval0
  simp only [List.append_nil] at hW'
  have hlt : ∀ x ∈ p0 ++ p1 ++ p2, x.block < W.heap.size := fun x hx => by simpa using hW'.lt x (by simpa using hx)
  obtain ⟨a0, t0, w0, s0⟩ := open_txts (hval 0 28 v0 rfl rfl) h0
  obtain ⟨a1, rfl, -, -, w1⟩ := open_int Try.underlying39 (hval 1 39 v1 rfl rfl) h1
  obtain ⟨a2, rfl, -, -, w2⟩ := open_int Try.underlying5 (hval 2 5 v2 rfl rfl) h2
  refine (walk a0 v0 a1 a2 W t0 w0 s0 w1 w2).mono fun e W' ⟨he, bel⟩ => ?_
  subst he
  refine ⟨_, rfl, _, _, _, [], _, [], hW', trodAll_mk1 (shut_bool Try.underlying4 _), (trodAll_cons_mk (Below.trod laid (by kernel_rfl) (of_decide_eq_true (by kernel_rfl)) h0 bel (fun x hx => hlt x (by simp [hx]))) (trodAll_cons_mk (Below.trod laid (by kernel_rfl) (of_decide_eq_true (by kernel_rfl)) h1 bel (fun x hx => hlt x (by simp [hx]))) (trodAll_cons_mk (Below.trod laid (by kernel_rfl) (of_decide_eq_true (by kernel_rfl)) h2 bel (fun x hx => hlt x (by simp [hx]))) trodAll_mk0))), rfl, Below.frame bel _, fun h => by cases h⟩

theorem over : Rows.blockCutsRow.holds Try.pinned (OpenSpec.ofChange Rows.blockCutsSpec) :=
  OpenClaim.holds_of_wide 5 Try.f5 rfl rfl rfl rfl rfl rfl rfl ⟨rfl, rfl, rfl, rfl, rfl⟩ rfl rfl rfl rfl rfl (by kernel_rfl) Try.func5 (by kernel_rfl)
    (of_decide_eq_true (by kernel_rfl)) (by unfold Func.isWrapper; first | (rw [if_pos (by decide +kernel)]; kernel_rfl) | (rw [if_neg (by decide +kernel)]; exact ⟨rfl, rfl⟩))
    (fun os started H enc _ => lifted os started H enc)

theorem proved : Rows.BlockCutsSaid := over
#print axioms proved
end Go.Proofs.Ytpcanlafbcdmcaa.blockCuts
