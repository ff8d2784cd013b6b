/-
  Proved: whatever is asked PagerSizes for, with whatever sizes, it returns true and leaves what it was given as it was. No condition.
-/
import Derived.Test.YtipipjpdlblifaaPagerSizesWeq
import Derived.Test.YtipipjpdlblifaaPagerSizesWgtk
import Derived.Test.YtipipjpdlblifaaPagerSizesWgtn
import Derived.Test.YtipipjpdlblifaaPagerSizesWltk
import Derived.Test.YtipipjpdlblifaaPagerSizesWltn
namespace Go.Proofs.Ytipipjpdlblifaa.pagerSizes
open Go.ChangeShapes Go.WideShapes Go.ChangeAt Go.RowKit
open Go.ChangeMaps (open_string shut_string)
set_option linter.unusedVariables false
set_option linter.unusedSimpArgs false

theorem wfu8 {a : Int} (h : (Lit.int .u8 a).wf = true) : ∃ n : Nat, a = n ∧ n ≤ 255 := by
  have : 0 ≤ a ∧ a ≤ 255 := by simpa [Lit.wf, IntKind.min, IntKind.max, IntKind.signed, IntKind.bits] using h
  exact ⟨a.toNat, by omega, by omega⟩
/-- What a call of Keys on this index tells. -/
def KC (L : List Ent) (k d a : ByteArray) (m : Int) (P : Pg) (n : Nat) : Prop :=
  Hid (∀ b v, Ents b b.heap.size v L → Calls Try.prog 11 #[v, .string k, .string d, .string a, .int .i64 m] b (KeysR b P n))
theorem sizes_all (L : List Ent) (k d a : ByteArray) (R : Bool) (hR : chkI L R) (hs : Small L) (hp : k.size ≤ 1000) (hd : d.size ≤ 1000) (ha : a.size ≤ 1000) {lo hi : Nat} (h : lo ≤ hi) (hh : hi ≤ 255) :
    (∃ P1 P2 : Pg, ∃ mo : Bool, mo = (decide (0 < P2.keys.length + P2.grps.length) || P2.more) ∧ (P2.more = true → P1.more = true) ∧ P1.keys.length ≤ P2.keys.length ∧ P1.grps.length ≤ P2.grps.length ∧ P2.keys.take P1.keys.length = P1.keys ∧ P2.grps.take P1.grps.length = P1.grps ∧ P2.keys.length ≤ 1000 ∧ P2.grps.length ≤ 1000 ∧
      KC L k d a (lo : Nat) P1 0 ∧ KC L k d a (hi : Nat) P2 0 ∧ KC L k d a 0 ⟨[], [], mo, ⟨#[]⟩⟩ 0) ∨ (KC L k d a (lo : Nat) noPg 1 ∧ KC L k d a (hi : Nat) noPg 1 ∧ KC L k d a 0 noPg 1) := by
  obtain ⟨P1, k1, hP1, K1⟩ := keys_wholeR L k d a (lo : Nat) R hR hs hp hd ha
  obtain ⟨P2, k2, hP2, K2⟩ := keys_wholeR L k d a (hi : Nat) R hR hs hp hd ha
  obtain ⟨P3, k3, hP3, K3⟩ := keys_wholeR L k d a 0 R hR hs hp hd ha
  rw [pgO_small a (by omega) (by omega)] at hP1 hP2
  rcases hP1 with ⟨g, hI, hP1, rfl⟩ | ⟨g, rfl, rfl⟩
  · have hP2' := hP2.resolve_right (fun q => by rw [g] at q; exact absurd q.1 (by simp))
    have hP3' := hP3.resolve_right (fun q => by rw [g] at q; exact absurd q.1 (by simp))
    obtain ⟨-, -, hQ2, rfl⟩ := hP2'
    obtain ⟨-, -, hQ3, rfl⟩ := hP3'
    rw [Int.toNat_natCast] at hP1 hQ2
    obtain ⟨s1, s2, s3, s4, s5, s6, s7, s8, s9⟩ := sizes_facts (thgs k d L) a h P1 P2 P3 hP1 hQ2 hQ3
    left
    have hkb : P2.keys.length ≤ 1000 ∧ P2.grps.length ≤ 1000 := by
      have hb := both_len ((bhd a (thgs k d L)).take hi)
      rw [List.length_take] at hb
      have e1 : P2.keys = keysOf ((bhd a (thgs k d L)).take hi) := by rw [hQ2]; rfl
      have e2 : P2.grps = grpsOf ((bhd a (thgs k d L)).take hi) := by rw [hQ2]; rfl
      rw [e1, e2]; omega
    obtain ⟨p1, p2, p3, p4⟩ := P3
    simp only at s6 s7 s8 s9
    subst s6 s7 s8
    exact ⟨P1, P2, p3, s9, s5, s1, s2, s3, s4, hkb.1, hkb.2, K1, K2, K3⟩
  · have hP2' := hP2.resolve_left (fun q => by rw [g] at q; exact absurd q.1 (by simp))
    have hP3' := hP3.resolve_left (fun q => by rw [g] at q; exact absurd q.1 (by simp))
    obtain ⟨-, rfl, rfl⟩ := hP2'
    obtain ⟨-, rfl, rfl⟩ := hP3'
    exact .inr ⟨K1, K2, K3⟩
set_option maxHeartbeats 8000000 in
set_option maxRecDepth 100000 in
theorem walk (u : Value) (l : List Ent) (pp dd key : ByteArray) (id : Nat) (m : Int) (xi yi : Int) (w : World) (t0 : Ents w w.heap.size u l) (z0 : l.length ≤ maxLen) (sp : pp.size ≤ maxLen) (sd : dd.size ≤ maxLen) (sk : key.size ≤ maxLen) (si : id < 18446744073709551616) (sm : -9223372036854775808 ≤ m) (sn : m ≤ 9223372036854775807) (wx : (Lit.int .u8 xi).wf = true) (wy : (Lit.int .u8 yi).wf = true) :
    Calls Try.prog 9 #[.agg #[u, .string pp, .string dd, .string key, .int .u64 (id : Nat), .int .i64 m], .int .u8 xi, .int .u8 yi] w fun e w' => e = .returned (.bool true) ∧ Q w w' := by
  obtain ⟨x, rfl, hx⟩ := wfu8 wx
  obtain ⟨y, rfl, hy⟩ := wfu8 wy
  have hlen : (fewE l).length ≤ 61 := fewE_len l
  have hs : Small (fewE l) := tiny_small (by omega) (fewE_tiny l)
  have hks := fewS_size pp
  have hds := fewS_size dd
  have has := fewS_size key
  have CU := Lib.hid fun b (q : Q w b) => cut_ask l u pp dd key id m b z0 sp sd sk (t0.on q)
  obtain ⟨L, hL⟩ : ∃ L, L = fewE l := ⟨_, rfl⟩
  obtain ⟨k, hk⟩ : ∃ k, k = fewS pp := ⟨_, rfl⟩
  obtain ⟨d, hd⟩ : ∃ d, d = fewS dd := ⟨_, rfl⟩
  obtain ⟨a, ha⟩ : ∃ a, a = fewS key := ⟨_, rfl⟩
  rw [← hL] at hlen hs CU
  rw [← hk] at hks CU
  rw [← hd] at hds CU
  rw [← ha] at has CU
  clear hL hk hd ha
  have hL1 := hs.1
  obtain ⟨R, hR⟩ := chkI_ex L
  rcases Nat.lt_trichotomy x y with hxy | rfl | hxy
  · obtain ⟨P1, P2, mo, hmo, hm, s1, s2, s3, s4, hk1, hk2, K1, K2, K3⟩ | ⟨K1, K2, K3⟩ := sizes_all L k d a R hR hs (by omega) (by omega) (by omega) (lo := x) (hi := y) (by omega) (by omega)
    · by_cases hkp : 0 < P2.keys.length + P2.grps.length
      · cases hm2 : P2.more with
        | true =>
          obtain rfl : mo = true := by rw [hmo, hm2]; simp [hkp]
          exact w_lt_k_true u l pp dd key id m x y hx hy hxy P1 P2 L k d a w t0 z0 sp sd sk hL1 CU K1 K2 K3 (hm hm2) hm2 hkp s1 s2 s3 s4 hk1 hk2
        | false =>
          obtain rfl : mo = true := by rw [hmo, hm2]; simp [hkp]
          exact w_lt_k_false u l pp dd key id m x y hx hy hxy P1 P2 L k d a w t0 z0 sp sd sk hL1 CU K1 K2 K3 trivial hm2 hkp s1 s2 s3 s4 hk1 hk2
      · cases hm2 : P2.more with
        | true =>
          obtain rfl : mo = true := by rw [hmo, hm2, decide_eq_false hkp]; rfl
          exact w_lt_n_true u l pp dd key id m x y hx hy hxy P1 P2 L k d a w t0 z0 sp sd sk hL1 CU K1 K2 K3 (hm hm2) hm2 (by omega) s1 s2 s3 s4 hk1 hk2
        | false =>
          obtain rfl : mo = false := by rw [hmo, hm2, decide_eq_false hkp]; rfl
          exact w_lt_n_false u l pp dd key id m x y hx hy hxy P1 P2 L k d a w t0 z0 sp sd sk hL1 CU K1 K2 K3 trivial hm2 (by omega) s1 s2 s3 s4 hk1 hk2
    · exact w_lt_no u l pp dd key id m x y hx hy hxy L k d a w t0 z0 sp sd sk hL1 CU K1 K2 K3
  · obtain ⟨P1, P2, mo, hmo, hm, s1, s2, s3, s4, hk1, hk2, K1, K2, K3⟩ | ⟨K1, K2, K3⟩ := sizes_all L k d a R hR hs (by omega) (by omega) (by omega) (lo := x) (hi := x) (by omega) (by omega)
    · by_cases hkp : 0 < P2.keys.length + P2.grps.length
      · cases hm2 : P2.more with
        | true =>
          obtain rfl : mo = true := by rw [hmo, hm2]; simp [hkp]
          exact w_eq_k_true u l pp dd key id m x hx P1 P2 L k d a w t0 z0 sp sd sk hL1 CU K1 K2 K3 (hm hm2) hm2 hkp s1 s2 s3 s4 hk1 hk2
        | false =>
          obtain rfl : mo = true := by rw [hmo, hm2]; simp [hkp]
          exact w_eq_k_false u l pp dd key id m x hx P1 P2 L k d a w t0 z0 sp sd sk hL1 CU K1 K2 K3 trivial hm2 hkp s1 s2 s3 s4 hk1 hk2
      · cases hm2 : P2.more with
        | true =>
          obtain rfl : mo = true := by rw [hmo, hm2, decide_eq_false hkp]; rfl
          exact w_eq_n_true u l pp dd key id m x hx P1 P2 L k d a w t0 z0 sp sd sk hL1 CU K1 K2 K3 (hm hm2) hm2 (by omega) s1 s2 s3 s4 hk1 hk2
        | false =>
          obtain rfl : mo = false := by rw [hmo, hm2, decide_eq_false hkp]; rfl
          exact w_eq_n_false u l pp dd key id m x hx P1 P2 L k d a w t0 z0 sp sd sk hL1 CU K1 K2 K3 trivial hm2 (by omega) s1 s2 s3 s4 hk1 hk2
    · exact w_eq_no u l pp dd key id m x hx L k d a w t0 z0 sp sd sk hL1 CU K1 K2 K3
  · obtain ⟨P1, P2, mo, hmo, hm, s1, s2, s3, s4, hk1, hk2, K1, K2, K3⟩ | ⟨K1, K2, K3⟩ := sizes_all L k d a R hR hs (by omega) (by omega) (by omega) (lo := y) (hi := x) (by omega) (by omega)
    · by_cases hkp : 0 < P2.keys.length + P2.grps.length
      · cases hm2 : P2.more with
        | true =>
          obtain rfl : mo = true := by rw [hmo, hm2]; simp [hkp]
          exact w_gt_k_true u l pp dd key id m x y hx hy hxy P1 P2 L k d a w t0 z0 sp sd sk hL1 CU K1 K2 K3 (hm hm2) hm2 hkp s1 s2 s3 s4 hk1 hk2
        | false =>
          obtain rfl : mo = true := by rw [hmo, hm2]; simp [hkp]
          exact w_gt_k_false u l pp dd key id m x y hx hy hxy P1 P2 L k d a w t0 z0 sp sd sk hL1 CU K1 K2 K3 trivial hm2 hkp s1 s2 s3 s4 hk1 hk2
      · cases hm2 : P2.more with
        | true =>
          obtain rfl : mo = true := by rw [hmo, hm2, decide_eq_false hkp]; rfl
          exact w_gt_n_true u l pp dd key id m x y hx hy hxy P1 P2 L k d a w t0 z0 sp sd sk hL1 CU K1 K2 K3 (hm hm2) hm2 (by omega) s1 s2 s3 s4 hk1 hk2
        | false =>
          obtain rfl : mo = false := by rw [hmo, hm2, decide_eq_false hkp]; rfl
          exact w_gt_n_false u l pp dd key id m x y hx hy hxy P1 P2 L k d a w t0 z0 sp sd sk hL1 CU K1 K2 K3 trivial hm2 (by omega) s1 s2 s3 s4 hk1 hk2
    · exact w_gt_no u l pp dd key id m x y hx hy hxy L k d a w t0 z0 sp sd sk hL1 CU K1 K2 K3

set_option maxRecDepth 100000 in
theorem lifted (os : Os) (started : os.Started) (H : Type) (enc : TypeId × Value → H) :
    ReturnsInHanded {} Try.checked os 9 .any (Rows.pagerSizesSpec.pre6 enc Try.prog Try.f9 Rows.pagerSizesRow.domain false) (Rows.pagerSizesSpec.post enc Try.prog Try.f9 false true false false) := by
  refine returnsInHanded_of_change (C := Try.checked) own started (by kernel_rfl) Try.func9
    (ChangeSpec.witness6 (enc := enc) (C := Try.checked) false ⟨#[], #[.agg #[.slice none 0 0, .string ByteArray.empty, .string ByteArray.empty, .string ByteArray.empty, .int .u64 0, .int .i64 0], .int .u8 0, .int .u8 0], []⟩ 8 (by kernel_rfl) (by kernel_rfl) (by kernel_rfl) (by kernel_rfl)) ?_
  intro W base args ds gs before hval0 hW hcnd _
  have hval : ∀ (j : Nat) t v, Try.f9.params[j]? = some t → args[j]? = some v → Value.okWide Try.prog W .any base t v := hval0
  have hW' := hW
  obtain ⟨p, q, hA0, hV, rfl, hfz, hnd⟩ := hW
  have hA : DataW.TrodAll enc Try.prog W 0 (fun _ => true) true Try.f9.params.toList args.toList ds p := hA0
  rw [Try.params9] at hA hval
  obtain ⟨v0, vs0, d0, ds0, p0, q0, hargs, rfl, rfl, h0, r0⟩ := trodAll_cons hA
  obtain ⟨v1, vs1, d1, ds1, p1, q1, rfl, rfl, rfl, h1, r1⟩ := trodAll_cons r0
  obtain ⟨v2, vs2, d2, ds2, p2, q2, rfl, rfl, rfl, h2, r2⟩ := trodAll_cons r1
  obtain ⟨rfl, rfl, rfl⟩ := trodAll_nil r2
  obtain rfl : args = #[v0, v1, v2] := by cases args; simp_all
  obtain ⟨rfl, rfl⟩ := trodVars_none hV
  clear hA0 hval0
  simp only [List.append_nil] at hW'
  have hlt : ∀ x ∈ p0 ++ p1 ++ p2, x.block < W.heap.size := fun x hx => by simpa using hW'.lt x (by simpa using hx)
  obtain ⟨u0, l0, p0q, d0q, k0q, n0q, m0q, rfl, t0, z0, sp0, sd0, sk0, si0, sm0, sn0⟩ := open_ask (hval 0 25 v0 rfl rfl) h0
  obtain ⟨a1, rfl, -, -, w1⟩ := open_int Try.underlying5 (hval 1 5 v1 rfl rfl) h1
  obtain ⟨a2, rfl, -, -, w2⟩ := open_int Try.underlying5 (hval 2 5 v2 rfl rfl) h2
  refine (walk u0 l0 p0q d0q k0q n0q m0q a1 a2 W t0 z0 sp0 sd0 sk0 si0 sm0 sn0 w1 w2).mono fun e W' ⟨he, bel⟩ => ?_
  subst he
  refine ⟨_, rfl, _, _, _, [], _, [], hW', trodAll_mk1 (shut_bool Try.underlying4 _), (trodAll_cons_mk (Below.trod laid (by kernel_rfl) (of_decide_eq_true (by kernel_rfl)) h0 bel (fun x hx => hlt x (by simp [hx]))) (trodAll_cons_mk (Below.trod laid (by kernel_rfl) (of_decide_eq_true (by kernel_rfl)) h1 bel (fun x hx => hlt x (by simp [hx]))) (trodAll_cons_mk (Below.trod laid (by kernel_rfl) (of_decide_eq_true (by kernel_rfl)) h2 bel (fun x hx => hlt x (by simp [hx]))) trodAll_mk0))), rfl, Below.frame bel _, fun h => by cases h⟩

theorem over : Rows.pagerSizesRow.holds Try.pinned (OpenSpec.ofChange Rows.pagerSizesSpec) :=
  OpenClaim.holds_of_wide 9 Try.f9 rfl rfl rfl rfl rfl rfl rfl ⟨rfl, rfl, rfl, rfl, rfl⟩ rfl rfl rfl rfl rfl (by kernel_rfl) Try.func9 (by kernel_rfl)
    (of_decide_eq_true (by kernel_rfl)) (by unfold Func.isWrapper; first | (rw [if_pos (by decide +kernel)]; kernel_rfl) | (rw [if_neg (by decide +kernel)]; exact ⟨rfl, rfl⟩))
    (fun os started H enc _ => lifted os started H enc)

theorem proved : Rows.PagerSizesSaid := over
#print axioms proved
end Go.Proofs.Ytipipjpdlblifaa.pagerSizes
