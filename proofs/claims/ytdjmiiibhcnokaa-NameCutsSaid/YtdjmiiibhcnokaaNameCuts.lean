/-
  Proved: whatever key, prefix and delimiter NameCuts is called with, it returns true and leaves what it was given as it was. No condition.
-/
import Derived.Test.YtdjmiiibhcnokaaAwake
import Derived.Test.YtdjmiiibhcnokaaPlainGroup
import Derived.OpenShut
import Derived.ShutString
import Derived.ChangeOld
namespace Go.Proofs.Ytdjmiiibhcnokaa.nameCuts
open Go.ChangeShapes Go.WideShapes Go.ChangeAt Go.RowKit
open Go.ChangeMaps (open_string shut_string)
set_option linter.unusedVariables false

/-- A longer prefix of the group has the group, too. -/
theorem cut_less {k p d g : ByteArray} (h : groupO k p d = (g, true)) {n : Nat} (h1 : p.size ≤ n) (h2 : n < g.size) : groupO k (k.extract 0 n) d = (g, true) := by
  obtain ⟨ho, i, hi, hd, h3, e, h4, h5⟩ := group_is h
  obtain ⟨a, b, c, _, f⟩ := okG_iff.1 ho
  have hg : g.size = i + 1 := by rw [e]; exact size_cut k (by omega)
  have hn : (k.extract 0 n).size = n := size_cut k (by omega)
  have ho' : okG k (k.extract 0 n) d = true := okG_iff.2 ⟨a, hasO_cut a (by omega) (by omega), c, hd, under_cut k (by omega)⟩
  rw [groupO_some ho' hd hi (by omega) h4 (by
    intro j hj p1 p2
    exact h5 j hj (by omega) p2), e]
/-- One behind the group has a longer one, or none. -/
theorem cut_more {k p d g : ByteArray} (h : groupO k p d = (g, true)) {n : Nat} (h1 : g.size ≤ n) (h2 : n ≤ k.size) {x : ByteArray} (hx : groupO k (k.extract 0 n) d = (x, true)) : g.size < x.size := by
  obtain ⟨ho, i, hi, hd, h3, e, h4, h5⟩ := group_is hx
  have hn : (k.extract 0 n).size = n := size_cut k h2
  have : x.size = i + 1 := by rw [e]; exact size_cut k (by omega)
  omega

def Stands (k d : ByteArray) (hd : 0 < d.size) (n i : Nat) (b : Bool) : Prop := (b = false → noTo k d[0] n i) ∧ (b = true → ¬ noTo k d[0] n k.size)
theorem stands_start (k d : ByteArray) (hd : 0 < d.size) (n : Nat) : Stands k d hd n n false := ⟨fun _ => noTo_zero _ _ _, fun h => by cases h⟩
theorem stands_yes {k d : ByteArray} {hd : 0 < d.size} {n i j : Nat} (h : Stands k d hd n i true) : Stands k d hd n j true := ⟨fun h => (by cases h), h.2⟩
theorem stands_step {k d : ByteArray} {hd : 0 < d.size} {n i : Nat} (hi : i < k.size) (hn : n ≤ i) (d1 : d.size = 1) (h : Stands k d hd n i false) {b : Bool} (hb : ((k.extract i (i + 1)).toList == d.toList) = b) : Stands k d hd n (i + 1) b := by
  rw [one_at hi d1] at hb
  subst hb
  refine ⟨fun e => ?_, fun e => ?_⟩
  · exact noTo_succ hi (h.1 rfl) (by simpa using e)
  · intro q
    exact q i hi hn hi (by simpa using e)
theorem stands_end {k p d g : ByteArray} {B b : Bool} (hd : 0 < d.size) (ho : okG k p d = true) (h : groupO k p d = (g, B)) (s : Stands k d hd p.size k.size b) : b = B := by
  cases b with
  | false =>
    rw [groupO_none ho hd (s.1 rfl)] at h
    simp at h; exact h.2.symm
  | true =>
    cases B with
    | true => rfl
    | false => exact absurd (group_not h ho hd) (s.2 rfl)

attribute [local irreducible] groupO hasO underO few okG

set_option maxHeartbeats 4000000 in
set_option maxRecDepth 100000 in
theorem walk (a0 a1 a2 : ByteArray) (w0 : a0.size ≤ maxLen) (w1 : a1.size ≤ maxLen) (w2 : a2.size ≤ maxLen) (w : World) :
    Calls Try.prog 8 #[.string a0, .string a1, .string a2] w fun e w' => e = .returned (.bool true) ∧ Below w.heap.size w w' := by
  have s0 : (few a0).size ≤ 1000 := Nat.le_trans (few_size _) (by omega)
  have s1 : (few a1).size ≤ 1000 := Nat.le_trans (few_size _) (by omega)
  have s2 : (few a2).size ≤ 1000 := Nat.le_trans (few_size _) (by omega)
  cases h1 : hasO 1 60 ko (few a0) with
  | false =>
    go_enter Try.func8, Try.ntmps8
    go_wp2_with fail
    refine (few_any _ _ w0).mono ?_
    rintro e x1 ⟨rfl, rfl⟩
    go_wp2_with fail
    refine (few_any _ _ w1).mono ?_
    rintro e x2 ⟨rfl, rfl⟩
    go_wp2_with fail
    refine (few_any _ _ w2).mono ?_
    rintro e x3 ⟨rfl, rfl⟩
    go_wp2_with fail
    refine (key_any _ _ s0).mono ?_
    rintro e x4 ⟨rfl, q1⟩
    go_wp2_with fail
    refine (awake_any _).mono ?_
    rintro e x5 ⟨rfl, qa⟩
    go_wp2
    go_ret
    exact ⟨rfl, q1.trans qa⟩
  | true =>
    cases h2 : hasO 0 60 ko (few a1) with
    | false =>
      go_enter Try.func8, Try.ntmps8
      go_wp2_with fail
      refine (few_any _ _ w0).mono ?_
      rintro e x1 ⟨rfl, rfl⟩
      go_wp2_with fail
      refine (few_any _ _ w1).mono ?_
      rintro e x2 ⟨rfl, rfl⟩
      go_wp2_with fail
      refine (few_any _ _ w2).mono ?_
      rintro e x3 ⟨rfl, rfl⟩
      go_wp2_with fail
      refine (key_any _ _ s0).mono ?_
      rintro e x4 ⟨rfl, q1⟩
      go_wp2_with fail
      refine (pref_any _ _ s1).mono ?_
      rintro e x5 ⟨rfl, q2⟩
      go_wp2_with fail
      refine (awake_any _).mono ?_
      rintro e x6 ⟨rfl, qa⟩
      go_wp2
      go_ret
      exact ⟨rfl, (q1.trans q2).trans qa⟩
    | true =>
      cases h3 : hasO 0 1 ko (few a2) with
      | false =>
        go_enter Try.func8, Try.ntmps8
        go_wp2_with fail
        refine (few_any _ _ w0).mono ?_
        rintro e x1 ⟨rfl, rfl⟩
        go_wp2_with fail
        refine (few_any _ _ w1).mono ?_
        rintro e x2 ⟨rfl, rfl⟩
        go_wp2_with fail
        refine (few_any _ _ w2).mono ?_
        rintro e x3 ⟨rfl, rfl⟩
        go_wp2_with fail
        refine (key_any _ _ s0).mono ?_
        rintro e x4 ⟨rfl, q1⟩
        go_wp2_with fail
        refine (pref_any _ _ s1).mono ?_
        rintro e x5 ⟨rfl, q2⟩
        go_wp2_with fail
        refine (delim_any _ _ s2).mono ?_
        rintro e x6 ⟨rfl, q3⟩
        go_wp2_with fail
        refine (awake_any _).mono ?_
        rintro e x7 ⟨rfl, qa⟩
        go_wp2
        go_ret
        exact ⟨rfl, ((q1.trans q2).trans q3).trans qa⟩
      | true =>
        by_cases h4 : (few a2).size = 0
        · have hn := is_nil h4
          clear h4
          go_enter Try.func8, Try.ntmps8
          go_wp2_with fail
          refine (few_any _ _ w0).mono ?_
          rintro e x1 ⟨rfl, rfl⟩
          go_wp2_with fail
          refine (few_any _ _ w1).mono ?_
          rintro e x2 ⟨rfl, rfl⟩
          go_wp2_with fail
          refine (few_any _ _ w2).mono ?_
          rintro e x3 ⟨rfl, rfl⟩
          go_wp2_with fail
          refine (key_any _ _ s0).mono ?_
          rintro e x4 ⟨rfl, q1⟩
          go_wp2_with fail
          refine (pref_any _ _ s1).mono ?_
          rintro e x5 ⟨rfl, q2⟩
          go_wp2_with fail
          refine (delim_any _ _ s2).mono ?_
          rintro e x6 ⟨rfl, q3⟩
          go_wp2_with fail
          refine (awake_any _).mono ?_
          rintro e x7 ⟨rfl, qa⟩
          go_wp2
          go_ret
          exact ⟨rfl, ((q1.trans q2).trans q3).trans qa⟩
        · obtain ⟨n1, n2⟩ := ne_nil (s := few a2) (by omega)
          have h0 : 0 < (few a2).size := by omega
          cases h5 : underO (few a0) (few a1) with
          | false =>
            go_enter Try.func8, Try.ntmps8
            go_wp2_with fail
            refine (few_any _ _ w0).mono ?_
            rintro e x1 ⟨rfl, rfl⟩
            go_wp2_with fail
            refine (few_any _ _ w1).mono ?_
            rintro e x2 ⟨rfl, rfl⟩
            go_wp2_with fail
            refine (few_any _ _ w2).mono ?_
            rintro e x3 ⟨rfl, rfl⟩
            go_wp2_with fail
            refine (key_any _ _ s0).mono ?_
            rintro e x4 ⟨rfl, q1⟩
            go_wp2_with fail
            refine (pref_any _ _ s1).mono ?_
            rintro e x5 ⟨rfl, q2⟩
            go_wp2_with fail
            refine (delim_any _ _ s2).mono ?_
            rintro e x6 ⟨rfl, q3⟩
            go_wp2_with fail
            refine (under_any _ _ _ s0 s1).mono ?_
            rintro e x7 ⟨rfl, rfl⟩
            go_wp2_with fail
            refine (awake_any _).mono ?_
            rintro e x8 ⟨rfl, qa⟩
            go_wp2
            go_ret
            exact ⟨rfl, ((q1.trans q2).trans q3).trans qa⟩
          | true =>
            have ho : okG (few a0) (few a1) (few a2) = true := okG_iff.2 ⟨h1, h2, h3, h0, h5⟩
            have hu := under_size h5
            have d1 : (few a2).size = 1 := by have := hasO_size h3; omega
            have D1 := Lib.hid d1
            have HO := Lib.hid ho
            clear d1 ho
            obtain ⟨⟨g, B⟩, hG⟩ : ∃ x, groupO (few a0) (few a1) (few a2) = x := ⟨_, rfl⟩
            have HG := Lib.hid hG
            clear hG
            go_enter Try.func8, Try.ntmps8
            go_wp2_with fail
            refine (few_any _ _ w0).mono ?_
            rintro e x1 ⟨rfl, rfl⟩
            go_wp2_with fail
            refine (few_any _ _ w1).mono ?_
            rintro e x2 ⟨rfl, rfl⟩
            go_wp2_with fail
            refine (few_any _ _ w2).mono ?_
            rintro e x3 ⟨rfl, rfl⟩
            go_wp2_with fail
            refine (key_any _ _ s0).mono ?_
            rintro e x4 ⟨rfl, q1⟩
            go_wp2_with fail
            refine (pref_any _ _ s1).mono ?_
            rintro e x5 ⟨rfl, q2⟩
            go_wp2_with fail
            refine (delim_any _ _ s2).mono ?_
            rintro e x6 ⟨rfl, q3⟩
            go_wp2_with fail
            refine (under_any _ _ _ s0 s1).mono ?_
            rintro e x7 ⟨rfl, rfl⟩
            go_wp2_with fail
            refine (group_any _ _ _ _ s0 s1 s2).mono ?_
            rintro e x8 ⟨rfl, q4⟩
            have hq0 := ((q1.trans q2).trans q3).trans q4
            clear q1 q2 q3 q4
            rw [HG.out]
            go_wp2_with fail
            go_loop [9, 10] (fun st i => ∃ (n : Nat) (b : Bool), (few a1).size ≤ n ∧ n ≤ (few a0).size ∧ i = .int .i64 n ∧ st = .bool b ∧ Stands (few a0) (few a2) h0 (few a1).size n b) (fun _ i => (few a0).size - (intOf i).toNat)
            case atStart => exact ⟨(few a1).size, false, Nat.le_refl _, hu, rfl, rfl, stands_start _ _ _ _⟩
            case round =>
              obtain ⟨n, b, hn1, hn2, rfl, rfl, hs⟩ := hrel
              by_cases hlt : n < (few a0).size
              · cases b with
                | true =>
                  have hs' := stands_yes (j := n + 1) hs
                  go_wp2_with fail
                  go_round
                  case rel => exact ⟨n + 1, true, by omega, by omega, by go_num, rfl, hs'⟩
                  case measure => simp [intOf]; omega
                | false =>
                  obtain ⟨c, hc⟩ : ∃ c, (((few a0).extract n (n + 1)).toList == (few a2).toList) = c := ⟨_, rfl⟩
                  have hs' := stands_step hlt hn1 D1.out hs hc
                  go_wp2_with fail
                  go_round
                  case rel => exact ⟨n + 1, c, by omega, by omega, by go_num, rfl, hs'⟩
                  case measure => simp [intOf]; omega
              · obtain rfl : n = (few a0).size := by omega
                have hb := stands_end h0 HO.out HG.out hs
                subst hb
                cases b with
                | false =>
                  go_wp2_with fail
                  go_loopw [11] (fun i wr => i = .int .i64 (few a1).size ∧ Q w wr) (fun i _ => 0)
                  case atStart => exact ⟨rfl, hq0⟩
                  case round =>
                    obtain ⟨rfl, hq⟩ := hrel
                    go_wp2_with fail
                    refine (awake_any _).mono ?_
                    rintro e y1 ⟨rfl, qa⟩
                    go_wp2
                    go_ret
                    exact ⟨rfl, hq.trans qa⟩
                | true =>
                  go_wp2_with fail
                  go_loopw [11] (fun i wr => ∃ m : Nat, (few a1).size ≤ m ∧ m ≤ (few a0).size + 1 ∧ i = .int .i64 m ∧ Q w wr) (fun i _ => (few a0).size + 1 - (intOf i).toNat)
                  case atStart => exact ⟨(few a1).size, Nat.le_refl _, by omega, rfl, hq0⟩
                  case round =>
                    obtain ⟨m, hm1, hm2, rfl, hq⟩ := hrel
                    by_cases hlt2 : m ≤ (few a0).size
                    · have sm : ((few a0).extract 0 m).size ≤ 1000 := by rw [size_cut _ hlt2]; omega
                      have SM := Lib.hid sm
                      clear sm
                      by_cases hmg : m < g.size
                      · have HX := Lib.hid (cut_less HG.out hm1 hmg)
                        go_wp2_with fail
                        refine (group_any _ _ _ _ s0 SM.out s2).mono ?_
                        rintro e y1 ⟨rfl, q5⟩
                        rw [HX.out]
                        go_wp2
                        go_roundw
                        case rel => exact ⟨m + 1, by omega, by omega, by go_num, hq.trans q5⟩
                        case measure => simp [intOf]; omega
                      · obtain ⟨⟨x, C⟩, hX⟩ : ∃ y, groupO (few a0) ((few a0).extract 0 m) (few a2) = y := ⟨_, rfl⟩
                        have HX := Lib.hid hX
                        cases C with
                        | false =>
                          clear hX
                          go_wp2_with fail
                          refine (group_any _ _ _ _ s0 SM.out s2).mono ?_
                          rintro e y1 ⟨rfl, q5⟩
                          rw [HX.out]
                          go_wp2
                          go_roundw
                          case rel => exact ⟨m + 1, by omega, by omega, by go_num, hq.trans q5⟩
                          case measure => simp [intOf]; omega
                        | true =>
                          have hlong := cut_more HG.out (by omega) hlt2 hX
                          clear hX
                          go_wp2_with fail
                          refine (group_any _ _ _ _ s0 SM.out s2).mono ?_
                          rintro e y1 ⟨rfl, q5⟩
                          rw [HX.out]
                          go_wp2
                          go_roundw
                          case rel => exact ⟨m + 1, by omega, by omega, by go_num, hq.trans q5⟩
                          case measure => simp [intOf]; omega
                    · go_wp2_with fail
                      refine (awake_any _).mono ?_
                      rintro e y1 ⟨rfl, qa⟩
                      go_wp2
                      go_ret
                      exact ⟨rfl, hq.trans qa⟩

theorem own : ownKnob Try.prog.godebug = none := by kernel_rfl

set_option maxRecDepth 100000 in
theorem lifted (os : Os) (started : os.Started) (H : Type) (enc : TypeId × Value → H) :
    ReturnsInHanded {} Try.checked os 8 .any (Rows.nameCutsSpec.pre6 enc Try.prog Try.f8 Rows.nameCutsRow.domain false) (Rows.nameCutsSpec.post enc Try.prog Try.f8 false true false false) := by
  refine returnsInHanded_of_change (C := Try.checked) own started (by kernel_rfl) Try.func8
    (ChangeSpec.witness6 (enc := enc) (C := Try.checked) false ⟨#[], #[.string ByteArray.empty, .string ByteArray.empty, .string ByteArray.empty], []⟩ 8 (by kernel_rfl) (by kernel_rfl) (by kernel_rfl) (by kernel_rfl)) ?_
  intro W base args ds gs before hval0 hW hcnd _
  have hval : ∀ (j : Nat) t v, Try.f8.params[j]? = some t → args[j]? = some v → Value.okWide Try.prog W .any base t v := hval0
  have hW' := hW
  obtain ⟨p, q, hA0, hV, rfl, hfz, hnd⟩ := hW
  have hA : DataW.TrodAll enc Try.prog W 0 (fun _ => true) true Try.f8.params.toList args.toList ds p := hA0
  rw [Try.params8] at hA hval
  obtain ⟨v0, vs0, d0, ds0, p0, q0, hargs, rfl, rfl, h0, r0⟩ := trodAll_cons hA
  obtain ⟨v1, vs1, d1, ds1, p1, q1, rfl, rfl, rfl, h1, r1⟩ := trodAll_cons r0
  obtain ⟨v2, vs2, d2, ds2, p2, q2, rfl, rfl, rfl, h2, r2⟩ := trodAll_cons r1
  obtain ⟨rfl, rfl, rfl⟩ := trodAll_nil r2
  obtain rfl : args = #[v0, v1, v2] := by cases args; simp_all
  obtain ⟨rfl, rfl⟩ := trodVars_none hV
  obtain ⟨a0, rfl, rfl, rfl, w0⟩ := open_string Try.underlying9 (hval 0 9 v0 rfl rfl) h0
  obtain ⟨a1, rfl, rfl, rfl, w1⟩ := open_string Try.underlying9 (hval 1 9 v1 rfl rfl) h1
  obtain ⟨a2, rfl, rfl, rfl, w2⟩ := open_string Try.underlying9 (hval 2 9 v2 rfl rfl) h2
  clear hA0 hval0
  simp only [List.append_nil] at hW'
  refine (walk a0 a1 a2 w0 w1 w2 W).mono fun e W' ⟨he, bel⟩ => ?_
  subst he
  exact ⟨_, rfl, _, _, _, [], _, [], hW', trodAll_mk1 (shut_bool Try.underlying4 _), (trodAll_cons_mk (shut_string Try.underlying9 w0) (trodAll_cons_mk (shut_string Try.underlying9 w1) (trodAll_cons_mk (shut_string Try.underlying9 w2) trodAll_mk0))), rfl, bel.frame _, fun h => by cases h⟩

theorem over : Rows.nameCutsRow.holds Try.pinned (OpenSpec.ofChange Rows.nameCutsSpec) :=
  OpenClaim.holds_of_wide 8 Try.f8 rfl rfl rfl rfl rfl rfl rfl ⟨rfl, rfl, rfl, rfl, rfl⟩ rfl rfl rfl rfl rfl (by kernel_rfl) Try.func8 (by kernel_rfl)
    (of_decide_eq_true (by kernel_rfl)) (by unfold Func.isWrapper; first | (rw [if_pos (by decide +kernel)]; kernel_rfl) | (rw [if_neg (by decide +kernel)]; exact ⟨rfl, rfl⟩))
    (fun os started H enc _ => lifted os started H enc)

theorem proved : Rows.NameCutsSaid := over
#print axioms proved
end Go.Proofs.Ytdjmiiibhcnokaa.nameCuts
