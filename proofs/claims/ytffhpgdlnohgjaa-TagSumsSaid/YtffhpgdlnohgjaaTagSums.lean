/-
  Proved: whatever three texts TagSums is called with, it returns true and leaves what it was given as it was. No condition.
-/
import Derived.Test.YtffhpgdlnohgjaaTSums
namespace Go.Proofs.Ytffhpgdlnohgjaa.tagSums
open Go.ChangeShapes Go.WideShapes Go.ChangeAt Go.RowKit
open Go.ChangeMaps (open_string shut_string)
set_option linter.unusedVariables false

attribute [local irreducible] few crc more reg sum3 soFar
set_option maxHeartbeats 4000000 in
set_option maxRecDepth 100000 in
theorem walk (a b c : ByteArray) (w0 : a.size ≤ maxLen) (w1 : b.size ≤ maxLen) (w2 : c.size ≤ maxLen) (w : World) :
    Calls Try.prog 6 #[.string a, .string b, .string c] w fun e w' => e = .returned (.bool true) ∧ Q w w' := by
  have fs1 := few_size a
  have F1 := Lib.hid fun w => few_any a w w0
  obtain ⟨A, hA⟩ : ∃ D, D = few a := ⟨_, rfl⟩
  rw [← hA] at fs1 F1
  clear hA
  have hA0 : A.size ≤ 5000 := by omega
  have fs2 := few_size b
  have F2 := Lib.hid fun w => few_any b w w1
  obtain ⟨B, hB⟩ : ∃ D, D = few b := ⟨_, rfl⟩
  rw [← hB] at fs2 F2
  clear hB
  have hB0 : B.size ≤ 5000 := by omega
  have fs3 := few_size c
  have F3 := Lib.hid fun w => few_any c w w2
  obtain ⟨C, hC⟩ : ∃ D, D = few c := ⟨_, rfl⟩
  rw [← hC] at fs3 F3
  clear hC
  have hC0 : C.size ≤ 5000 := by omega
  obtain ⟨n, hn⟩ : ∃ n, n = min (min A.size B.size) C.size := ⟨_, rfl⟩
  have ha : n ≤ A.size := by omega
  have hb : n ≤ B.size := by omega
  have hc : n ≤ C.size := by omega
  have hmin := fun w => min_any w A.size B.size C.size n (by omega)
  clear hn
  have hn5 : n ≤ 5000 := by omega
  obtain ⟨i0, hi, hz0, hz1, hz2⟩ := info_parts info_u8
  have hl := sum3_length ha hb hc
  have HX := sum3_crc ha hb hc
  obtain ⟨l, hl'⟩ : ∃ l, l = sum3 n A B C := ⟨_, rfl⟩
  rw [← hl'] at hl HX
  have HG : Hid (∀ j (hj : j < n) (h : j < l.length), l[j] = A[j]'(by omega) ^^^ B[j]'(by omega) ^^^ C[j]'(by omega)) := Lib.hid (by subst hl'; exact fun j hj h => sum3_get ha hb hc hj h)
  clear w0 w1 w2 fs1 fs2 fs3 hl'
  go_enter Try.func6, Try.ntmps6
  go_wp2_with fail
  refine (F1.out _).mono ?_
  rintro e w0 ⟨rfl, rfl⟩
  go_wp2_with fail
  refine (F2.out _).mono ?_
  rintro e w1 ⟨rfl, rfl⟩
  go_wp2_with fail
  refine (F3.out _).mono ?_
  rintro e w2 ⟨rfl, rfl⟩
  go_wp2_with (at_make; refine wpList_make_full _ rfl _ _ 45 rfl w.heap.size 5 i0 (.int .u8 0) 1 Try.underlying45 hi hz0 hz1 .i64 .i64 _ _ n rfl rfl rfl rfl (by rw [hz2]; omega) (by unfold maxLen; omega) (Nat.le_refl _) ?_; intro w4 o4 g4; refine Hid.out ?_)
  refine Lib.hid ?_
  have b4 : Below w.heap.size w w4 := (Below.refl _ w).grown g4 (Nat.le_refl _) (by simp)
  rw [Nat.mul_one] at o4
  rw [show (Value.int IntKind.u8 0).cells = #[Value.int IntKind.u8 0] by rfl, toList_madeCells_one] at o4
  have O := Lib.hid o4
  clear o4 g4
  go_wp2_with fail
  go_loopw [9] (fun I wr => ∃ j : Nat, j ≤ n ∧ I = .int .i64 j ∧ Hid (wr.ownsRow w.heap.size 5 1 (.slice (some ⟨w.heap.size, 0, none⟩) n n) n (soFar l j)) ∧ Below w.heap.size w wr) (fun I _ => n - (intOf I).toNat)
  case atStart => exact ⟨0, Nat.zero_le _, rfl, Lib.hid (by rw [soFar_zero, hl]; exact O.out), b4⟩
  case round =>
    obtain ⟨j, hj, rfl, HO, bel⟩ := hrel
    clear O b4
    by_cases hlt : j < n
    · have hjl : j < l.length := by rw [hl]; exact hlt
      have z1 : (j : Int) < (A.size : Int) := by omega
      have z2 : (j : Int) < (B.size : Int) := by omega
      have z3 : (j : Int) < (C.size : Int) := by omega
      have y1 : j < A.size := by omega
      have y2 : j < B.size := by omega
      have y3 : j < C.size := by omega
      have x1 : bits .xor .u8 (A[j].toNat : Int) (B[j].toNat : Int) = ((A[j].toNat ^^^ B[j].toNat : Nat) : Int) := u8_xor_nat _ _ (UInt8.toNat_lt _) (UInt8.toNat_lt _)
      obtain ⟨y, hy⟩ : ∃ y : UInt8, y = A[j] ^^^ B[j] ^^^ C[j] := ⟨_, rfl⟩
      have x2 : bits .xor .u8 ((A[j].toNat ^^^ B[j].toNat : Nat) : Int) (C[j].toNat : Int) = (y.toNat : Nat) := by
        rw [hy, UInt8.toNat_xor, UInt8.toNat_xor, ← UInt8.toNat_xor A[j]]; exact u8_xor_nat _ _ (UInt8.toNat_lt _) (UInt8.toNat_lt _)
      have hg := (HG.out j hlt hjl).trans hy.symm
      have c1 : wr.cell? ⟨w.heap.size, j, none⟩ = some (.int .u8 0) := by
        rw [HO.out.cellAt j (by omega)]; exact soFar_at l j hjl
      have f1 := HO.out.frozenAt j
      have S := HO.out.stored j (.int .u8 (y.toNat : Nat))
      rw [← hg, soFar_set l j hjl, hg] at S
      have S1 := Lib.hid S.1
      have bel2 := Below.setCell bel (p := ⟨w.heap.size, j, none⟩) (Nat.le_refl _) (.int .u8 (y.toNat : Nat))
      clear S hg hjl hy
      go_wp2_with fail
      go_region
      go_wp2_with fail
      go_roundw
      case rel => exact ⟨j + 1, by omega, by go_num, Lib.hid S1.out.drew, bel2.drew⟩
      case measure => simp [intOf]; omega
    · obtain rfl : j = n := by omega
      have hcv := fun k => conv_row (base := w.heap.size) (g := w.heap.size) (cap := j) (w := wr.drewN k) (l := l) (by rw [← soFar_end, hl]; exact HO.out)
      rw [hl] at hcv
      have zl : (mk l).size ≤ 5000 := by rw [mk_size]; omega
      have za : (A.extract 0 j).size ≤ 5000 := by rw [size_cut _ (by omega)]; omega
      have zb : (B.extract 0 j).size ≤ 5000 := by rw [size_cut _ (by omega)]; omega
      have zc : (C.extract 0 j).size ≤ 5000 := by rw [size_cut _ (by omega)]; omega
      have O1 := Lib.hid fun w => of_any (mk l) w zl
      have O2 := Lib.hid fun w => of_any (A.extract 0 j) w za
      have O3 := Lib.hid fun w => of_any (B.extract 0 j) w zb
      have O4 := Lib.hid fun w => of_any (C.extract 0 j) w zc
      rw [bl_mk] at O1
      rw [bl_extract, List.drop_zero, Nat.sub_zero] at O2 O3 O4
      have k1 := crc_lt ((bl A).take j)
      have k2 := crc_lt ((bl B).take j)
      have k3 := crc_lt ((bl C).take j)
      obtain ⟨s, hs⟩ : ∃ s, s = crc l := ⟨_, rfl⟩
      obtain ⟨p, hp⟩ : ∃ p, p = crc ((bl A).take j) := ⟨_, rfl⟩
      obtain ⟨q, hq⟩ : ∃ q, q = crc ((bl B).take j) := ⟨_, rfl⟩
      obtain ⟨r, hr⟩ : ∃ r, r = crc ((bl C).take j) := ⟨_, rfl⟩
      rw [← hs] at HX O1
      rw [← hp] at HX O2 k1
      rw [← hq] at HX O3 k2
      rw [← hr] at HX O4 k3
      obtain ⟨t, ht⟩ : ∃ t, t = p ^^^ q := ⟨_, rfl⟩
      have X1 : bits .xor .u32 (p : Int) (q : Int) = (t : Nat) := by rw [ht]; exact u32_xor_nat p q k1 k2
      have X2 : bits .xor .u32 (t : Int) (r : Int) = (s : Nat) := by rw [HX, ht]; exact u32_xor_nat (p ^^^ q) r (lt_xor k1 k2) k3
      obtain ⟨E, hE⟩ : ∃ E, E = mk l := ⟨_, rfl⟩
      rw [← hE] at hcv O1
      have z1 : (j : Int) ≤ (A.size : Int) := by omega
      have z2 : (j : Int) ≤ (B.size : Int) := by omega
      have z3 : (j : Int) ≤ (C.size : Int) := by omega
      clear HX hs hp hq hr ht hE k1 k2 k3 zl za zb zc HG HO
      go_wp2_with fail
      refine wp_region_quiet_lit (by kernel_rfl) (by kernel_rfl) ?_
      iterate 22 quiet_step ((first | with_reducible exact quiet_left (O1.out _) | with_reducible exact quiet_left (O2.out _) | with_reducible exact quiet_left (O3.out _) | with_reducible exact quiet_left (O4.out _) | exact quiet_d (awake_d _)))
      refine wpQuiet_nil ?_
      rintro _ ⟨nq, rfl⟩
      go_wp2
      go_ret
      exact ⟨rfl, (Q.drewN (a := w) bel _)⟩

set_option maxRecDepth 100000 in
theorem lifted (os : Os) (started : os.Started) (H : Type) (enc : TypeId × Value → H) :
    ReturnsInHanded {} Try.checked os 6 .any (Rows.tagSumsSpec.pre6 enc Try.prog Try.f6 Rows.tagSumsRow.domain false) (Rows.tagSumsSpec.post enc Try.prog Try.f6 false true false false) := by
  refine returnsInHanded_of_change (C := Try.checked) own started (by kernel_rfl) Try.func6
    (ChangeSpec.witness6 (enc := enc) (C := Try.checked) false ⟨#[], #[.string ByteArray.empty, .string ByteArray.empty, .string ByteArray.empty], []⟩ 8 (by kernel_rfl) (by kernel_rfl) (by kernel_rfl) (by kernel_rfl)) ?_
  intro W base args ds gs before hval0 hW hcnd _
  have hval : ∀ (j : Nat) t v, Try.f6.params[j]? = some t → args[j]? = some v → Value.okWide Try.prog W .any base t v := hval0
  have hW' := hW
  obtain ⟨p, q, hA0, hV, rfl, hfz, hnd⟩ := hW
  have hA : DataW.TrodAll enc Try.prog W 0 (fun _ => true) true Try.f6.params.toList args.toList ds p := hA0
  rw [Try.params6] at hA hval
  obtain ⟨v0, vs0, d0, ds0, p0, q0, hargs, rfl, rfl, h0, r0⟩ := trodAll_cons hA
  obtain ⟨v1, vs1, d1, ds1, p1, q1, rfl, rfl, rfl, h1, r1⟩ := trodAll_cons r0
  obtain ⟨v2, vs2, d2, ds2, p2, q2, rfl, rfl, rfl, h2, r2⟩ := trodAll_cons r1
  obtain ⟨rfl, rfl, rfl⟩ := trodAll_nil r2
  obtain rfl : args = #[v0, v1, v2] := by cases args; simp_all
  obtain ⟨rfl, rfl⟩ := trodVars_none hV
  clear hA0 hval0
  simp only [List.append_nil] at hW'
  have hlt : ∀ x ∈ p0 ++ p1 ++ p2, x.block < W.heap.size := fun x hx => by simpa using hW'.lt x (by simpa using hx)
  obtain ⟨a0, rfl, -, -, w0⟩ := open_string Try.underlying9 (hval 0 9 v0 rfl rfl) h0
  obtain ⟨a1, rfl, -, -, w1⟩ := open_string Try.underlying9 (hval 1 9 v1 rfl rfl) h1
  obtain ⟨a2, rfl, -, -, w2⟩ := open_string Try.underlying9 (hval 2 9 v2 rfl rfl) h2
  refine (walk a0 a1 a2 w0 w1 w2 W).mono fun e W' ⟨he, bel⟩ => ?_
  subst he
  refine ⟨_, rfl, _, _, _, [], _, [], hW', trodAll_mk1 (shut_bool Try.underlying4 _), (trodAll_cons_mk (Below.trod laid (by kernel_rfl) (of_decide_eq_true (by kernel_rfl)) h0 bel (fun x hx => hlt x (by simp [hx]))) (trodAll_cons_mk (Below.trod laid (by kernel_rfl) (of_decide_eq_true (by kernel_rfl)) h1 bel (fun x hx => hlt x (by simp [hx]))) (trodAll_cons_mk (Below.trod laid (by kernel_rfl) (of_decide_eq_true (by kernel_rfl)) h2 bel (fun x hx => hlt x (by simp [hx]))) trodAll_mk0))), rfl, Below.frame bel _, fun h => by cases h⟩

theorem over : Rows.tagSumsRow.holds Try.pinned (OpenSpec.ofChange Rows.tagSumsSpec) :=
  OpenClaim.holds_of_wide 6 Try.f6 rfl rfl rfl rfl rfl rfl rfl ⟨rfl, rfl, rfl, rfl, rfl⟩ rfl rfl rfl rfl rfl (by kernel_rfl) Try.func6 (by kernel_rfl)
    (of_decide_eq_true (by kernel_rfl)) (by unfold Func.isWrapper; first | (rw [if_pos (by decide +kernel)]; kernel_rfl) | (rw [if_neg (by decide +kernel)]; exact ⟨rfl, rfl⟩))
    (fun os started H enc _ => lifted os started H enc)

theorem proved : Rows.TagSumsSaid := over
#print axioms proved
end Go.Proofs.Ytffhpgdlnohgjaa.tagSums
