/-
  Proved: whatever text and number TagBit is called with, it returns true and leaves what it was given as it was. No condition.
-/
import Derived.Test.YtffhpgdlnohgjaaTBytes
namespace Go.Proofs.Ytffhpgdlnohgjaa.tagBit
open Go.ChangeShapes Go.WideShapes Go.ChangeAt Go.RowKit
open Go.ChangeMaps (open_string shut_string)
set_option linter.unusedVariables false

attribute [local irreducible] few crc more reg manyP hexk cnt
set_option maxHeartbeats 4000000 in
set_option maxRecDepth 100000 in
theorem walk (d : ByteArray) (t : Int) (w0 : d.size ≤ maxLen) (w1 : (Lit.int .u16 t).wf = true) (w : World) :
    Calls Try.prog 9 #[.string d, .int .u16 t] w fun e w' => e = .returned (.bool true) ∧ Q w w' := by
  obtain ⟨n, rfl, hn⟩ := wf16 w1
  clear w1
  have fs := few_size d
  have F := Lib.hid fun w => few_any d w w0
  obtain ⟨D, hD⟩ : ∃ D, D = few d := ⟨_, rfl⟩
  rw [← hD] at fs F
  clear hD
  have hD0 : D.size ≤ 5000 := by omega
  by_cases hz : D.size = 0
  · obtain rfl := text_nil hz
    have n0 : ((⟨#[]⟩ : ByteArray).toList == []) = true := by kernel_rfl
    have n1 : (⟨#[]⟩ : ByteArray).toList = [] := by kernel_rfl
    go_enter Try.func9, Try.ntmps9
    go_wp2_with fail
    refine (F.out _).mono ?_
    rintro e w0 ⟨rfl, rfl⟩
    go_wp2_with fail
    refine (awake_any _).mono ?_
    rintro e w9 ⟨rfl, q9⟩
    go_wp2
    go_ret
    exact ⟨rfl, q9⟩
  · have hp : 0 < D.size := by omega
    have n0 : (D.toList == []) = false := by
      have : ¬ D.toList = [] := fun e => hz ((nil_text _).1 e)
      simpa using this
    have n2 : D.toList.isEmpty = false := by simpa [List.isEmpty_iff] using fun e => hz ((nil_text _).1 e)
    obtain ⟨k, hk⟩ : ∃ k, k = n % (8 * D.size) := ⟨_, rfl⟩
    have hk1 : k < 8 * D.size := by rw [hk]; exact Nat.mod_lt _ (by omega)
    have ek : (n : Int) % (8 * (D.size : Int)) = (k : Int) := by rw [hk, Int.natCast_emod]; rfl
    obtain ⟨W, cap, hconv, hcap, qW, zW, cW, fW⟩ := conv_bytes D w
    have hi : k / 8 < D.size := by omega
    have cW1 := cW (k / 8) hi
    have fW1 := fW (k / 8) hi
    have A := Lib.hid fun w => of_any D w hD0
    obtain ⟨y, hy⟩ : ∃ y, y = D[k / 8] ^^^ (2 ^ (k % 8) % 256).toUInt8 := ⟨_, rfl⟩
    have hpow : 2 ^ (k % 8) < 256 := Nat.lt_of_le_of_lt (Nat.pow_le_pow_right (by omega) (by omega : k % 8 ≤ 7)) (by decide)
    have hb : bits .xor .u8 (D[k / 8].toNat : Int) (2 ^ (k % 8) % 256) = (y.toNat : Nat) := by
      have := u8_xor_nat D[k / 8].toNat (2 ^ (k % 8) % 256) (UInt8.toNat_lt _) (Nat.mod_lt _ (by omega))
      rw [hy, UInt8.toNat_xor, Lib.toUInt8_toNat (Nat.mod_lt _ (by omega)), ← this]
      congr 1
    have hne : y ≠ D[k / 8] := by
      intro e
      have e2 := congrArg UInt8.toNat (hy.symm.trans e)
      rw [UInt8.toNat_xor, Lib.toUInt8_toNat (Nat.mod_lt _ (by omega)), Nat.mod_eq_of_lt hpow] at e2
      have e3 := congrArg (D[k / 8].toNat ^^^ ·) e2
      simp only [xx, Nat.xor_self] at e3
      have := Nat.two_pow_pos (k % 8)
      omega
    have hcr := setO_crc hi hne
    have B := Lib.hid fun w => of_any (setO D (k / 8) y) w (by rw [setO_size]; exact hD0)
    have hc2 := conv_set D w W cap (k / 8) y hi zW cW (W.setCell ⟨w.heap.size, k / 8, none⟩ (.int .u8 (y.toNat : Nat))).drew (fun p => rfl)
    have HQ : Hid (Q w (W.setCell ⟨w.heap.size, k / 8, none⟩ (.int .u8 (y.toNat : Nat))).drew) := Lib.hid ((Below.setCell qW (Nat.le_refl _) _).drew)
    obtain ⟨a, ha⟩ : ∃ a, a = crc (bl D) := ⟨_, rfl⟩
    obtain ⟨b, hb'⟩ : ∃ b, b = crc (bl (setO D (k / 8) y)) := ⟨_, rfl⟩
    obtain ⟨E, hE⟩ : ∃ E, E = setO D (k / 8) y := ⟨_, rfl⟩
    rw [← ha, ← hb'] at hcr
    rw [← ha] at A
    rw [← hb', ← hE] at B
    rw [← hE] at hc2
    have hab : ((b : Int) == (a : Int)) = false := by
      have : ¬ (b : Int) = (a : Int) := fun e => hcr (by omega)
      simpa using this
    have hab2 : ¬ (b : Int) = (a : Int) := fun e => hcr (by omega)
    have hab3 : ¬ b = a := hcr
    have hab4 : ((b : Int) != (a : Int)) = true := by simpa using hab2
    clear hz hk w0 fs hy hne hcr ha hb' hE hpow cW fW
    go_enter Try.func9, Try.ntmps9
    go_wp2_with fail
    refine (F.out _).mono ?_
    rintro e w0 ⟨rfl, rfl⟩
    go_wp2_with fail
    rw [ek]
    have z3 : (k : Int) / 8 < (D.size : Int) := by omega
    have z4 : (0 : Int) ≤ (k : Int) / 8 := by omega
    have z5 : (0 : Int) ≤ (k : Int) % 8 := by omega
    go_region
    go_wp2_with fail
    refine (B.out _).mono ?_
    rintro e w1 ⟨rfl, rfl⟩
    go_wp2_with fail
    refine (A.out _).mono ?_
    rintro e w2 ⟨rfl, rfl⟩
    go_wp2_with fail
    refine (awake_any _).mono ?_
    rintro e w9 ⟨rfl, q9⟩
    go_wp2
    go_ret
    exact ⟨rfl, (HQ.out).trans q9⟩

set_option maxRecDepth 100000 in
theorem lifted (os : Os) (started : os.Started) (H : Type) (enc : TypeId × Value → H) :
    ReturnsInHanded {} Try.checked os 9 .any (Rows.tagBitSpec.pre6 enc Try.prog Try.f9 Rows.tagBitRow.domain false) (Rows.tagBitSpec.post enc Try.prog Try.f9 false true false false) := by
  refine returnsInHanded_of_change (C := Try.checked) own started (by kernel_rfl) Try.func9
    (ChangeSpec.witness6 (enc := enc) (C := Try.checked) false ⟨#[], #[.string ByteArray.empty, .int .u16 0], []⟩ 8 (by kernel_rfl) (by kernel_rfl) (by kernel_rfl) (by kernel_rfl)) ?_
  intro W base args ds gs before hval0 hW hcnd _
  have hval : ∀ (j : Nat) t v, Try.f9.params[j]? = some t → args[j]? = some v → Value.okWide Try.prog W .any base t v := hval0
  have hW' := hW
  obtain ⟨p, q, hA0, hV, rfl, hfz, hnd⟩ := hW
  have hA : DataW.TrodAll enc Try.prog W 0 (fun _ => true) true Try.f9.params.toList args.toList ds p := hA0
  rw [Try.params9] at hA hval
  obtain ⟨v0, vs0, d0, ds0, p0, q0, hargs, rfl, rfl, h0, r0⟩ := trodAll_cons hA
  obtain ⟨v1, vs1, d1, ds1, p1, q1, rfl, rfl, rfl, h1, r1⟩ := trodAll_cons r0
  obtain ⟨rfl, rfl, rfl⟩ := trodAll_nil r1
  obtain rfl : args = #[v0, v1] := by cases args; simp_all
  obtain ⟨rfl, rfl⟩ := trodVars_none hV
  clear hA0 hval0
  simp only [List.append_nil] at hW'
  have hlt : ∀ x ∈ p0 ++ p1, x.block < W.heap.size := fun x hx => by simpa using hW'.lt x (by simpa using hx)
  obtain ⟨a0, rfl, -, -, w0⟩ := open_string Try.underlying9 (hval 0 9 v0 rfl rfl) h0
  obtain ⟨a1, rfl, -, -, w1⟩ := open_int Try.underlying43 (hval 1 43 v1 rfl rfl) h1
  refine (walk a0 a1 w0 w1 W).mono fun e W' ⟨he, bel⟩ => ?_
  subst he
  refine ⟨_, rfl, _, _, _, [], _, [], hW', trodAll_mk1 (shut_bool Try.underlying4 _), (trodAll_cons_mk (Below.trod laid (by kernel_rfl) (of_decide_eq_true (by kernel_rfl)) h0 bel (fun x hx => hlt x (by simp [hx]))) (trodAll_cons_mk (Below.trod laid (by kernel_rfl) (of_decide_eq_true (by kernel_rfl)) h1 bel (fun x hx => hlt x (by simp [hx]))) trodAll_mk0)), rfl, Below.frame bel _, fun h => by cases h⟩

theorem over : Rows.tagBitRow.holds Try.pinned (OpenSpec.ofChange Rows.tagBitSpec) :=
  OpenClaim.holds_of_wide 9 Try.f9 rfl rfl rfl rfl rfl rfl rfl ⟨rfl, rfl, rfl, rfl, rfl⟩ rfl rfl rfl rfl rfl (by kernel_rfl) Try.func9 (by kernel_rfl)
    (of_decide_eq_true (by kernel_rfl)) (by unfold Func.isWrapper; first | (rw [if_pos (by decide +kernel)]; kernel_rfl) | (rw [if_neg (by decide +kernel)]; exact ⟨rfl, rfl⟩))
    (fun os started H enc _ => lifted os started H enc)

theorem proved : Rows.TagBitSaid := over
#print axioms proved
end Go.Proofs.Ytffhpgdlnohgjaa.tagBit
