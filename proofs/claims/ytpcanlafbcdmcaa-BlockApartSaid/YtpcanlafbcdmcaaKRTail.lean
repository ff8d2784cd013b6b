/-
  Contract of the document's tail.
-/
import Derived.Test.YtpcanlafbcdmcaaKTail
import Derived.Test.YtpcanlafbcdmcaaKTcs
namespace Go.Proofs.Ytpcanlafbcdmcaa
set_option maxRecDepth 100000
open Go.ChangeShapes Go.WideShapes Go.ChangeAt Go.RowKit
set_option linter.unusedVariables false
set_option linter.unusedSimpArgs false
set_option maxRecDepth 100000

theorem at_get2 (b : ByteArray) (i : Nat) (h : i < b.size) : b[i].toNat = atK b i := by
  have h2 : i < (bl b).length := by rw [bl_length]; exact h
  rw [atK, List.getElem?_eq_getElem h2]; rfl
theorem ext_end (b : ByteArray) (hb : b.size = 64) : bl (b.extract 60 64) = endK b := by
  rw [bl_extract, endK, List.take_of_length_le (by rw [List.length_drop, bl_length]; omega)]
theorem ext_foot (b : ByteArray) (hb : b.size = 64) (p f : Nat) : b.extract 60 64 = mk (footK p f) ↔ endK b = footK p f := by
  rw [← ext_end b hb]
  exact ⟨fun h => by rw [h, bl_mk], fun h => bl_inj (by rw [h, bl_mk])⟩
theorem rt_torn {l : List ByteArray} (h0 : 0 < l.length) {f i : Nat} (hf : folK (l[0]'h0) = f) (hi : i < l.length) (hl : i = l.length - 1) (h : ∀ q (hq : q < l.length), q < i → q < f ∧ endK l[q] = footK q (f - q)) (ht : ¬ atK (l[i]'hi) 63 = 165) : tailK l = true := by
  subst hl
  rw [tail_form h0, hf]
  refine ⟨?_, fun q hq => (h q (by omega) hq).2, .inl ht⟩
  by_cases h1 : l.length - 1 = 0
  · omega
  · have := (h (l.length - 2) (by omega) (by omega)).1; omega
theorem rt_bad {l : List ByteArray} (h0 : 0 < l.length) {f i : Nat} (hf : folK (l[0]'h0) = f) (hi : i < l.length) (hn : ¬ (i = l.length - 1 ∧ ¬ atK (l[i]'hi) 63 = 165)) (hb : f ≤ i ∨ ¬ endK (l[i]'hi) = footK i (f - i)) : tailK l = false := by
  cases ht : tailK l with
  | false => rfl
  | true =>
    rw [tail_form h0, hf] at ht
    obtain ⟨h1, h2, h3⟩ := ht
    exfalso
    by_cases hl : i = l.length - 1
    · subst hl
      rcases h3 with h3 | ⟨h3, h4⟩
      · exact hn ⟨rfl, h3⟩
      · rcases hb with hb | hb
        · omega
        · exact hb h4
    · rcases hb with hb | hb
      · omega
      · exact hb (h2 i (by omega))
theorem rt_all {l : List ByteArray} (h0 : 0 < l.length) {f : Nat} (hf : folK (l[0]'h0) = f) (h : ∀ q (hq : q < l.length), q < l.length → q < f ∧ endK l[q] = footK q (f - q)) : tailK l = true := by
  rw [tail_form h0, hf]
  have h1 := h (l.length - 1) (by omega) (by omega)
  exact ⟨by omega, fun q hq => (h q (by omega) (by omega)).2, .inr ⟨h1.1, h1.2⟩⟩
theorem rt_none {l : List ByteArray} (h0 : 0 < l.length) (h : ∀ g, 1 ≤ g → g < 65536 → ¬ endK (l[0]'h0) = footK 0 g) : tailK l = (decide (l.length = 1) && !decide (atK (l[0]'h0) 63 = 165)) := by
  have hfl := fol_lt (l[0]'h0)
  rw [Bool.eq_iff_iff, tail_form h0]
  simp only [Bool.and_eq_true, Bool.not_eq_true', decide_eq_false_iff_not, decide_eq_true_eq]
  constructor
  · rintro ⟨h1, h2, h3⟩
    have hl : l.length = 1 := by
      apply Classical.byContradiction
      intro hn
      have := h2 0 (by omega)
      exact h _ (by omega) hfl this
    refine ⟨hl, fun ht => ?_⟩
    have e : l.length - 1 = 0 := by omega
    simp only [e] at h3
    rcases h3 with h3 | ⟨h3, h4⟩
    · exact h3 ht
    · exact h _ (by omega) hfl h4
  · rintro ⟨h1, h2⟩
    refine ⟨by omega, fun i hi => absurd hi (by omega), .inl ?_⟩
    have e : l.length - 1 = 0 := by omega
    simp only [e]
    exact h2
set_option maxHeartbeats 16000000 in
theorem rtail_any (l : List ByteArray) (v : Value) (w : World) (h0 : 0 < l.length) (hz : ∀ b ∈ l, b.size = 64) (hl : l.length ≤ 1000000) (ht : Tcs w w.heap.size v l) :
    Calls Try.prog 27 #[v] w fun e w' => e = .returned (.bool (tailK l)) ∧ Q w w' := by
  obtain ⟨a, c, rfl, hlc, ha, hcs⟩ := ht.at h0
  have hc := hcs 0 h0
  rw [show a.add 0 = a by cases a; simp [Addr.add]] at hc
  have hs := hz l[0] (List.getElem_mem h0)
  have HTO := Lib.hid (fun f i hf hi => rt_torn (f := f) (i := i) h0 hf hi)
  have HBA := Lib.hid (fun f i hf hi => rt_bad (f := f) (i := i) h0 hf hi)
  have HAL := Lib.hid (fun f hf => rt_all (f := f) h0 hf)
  have HNO := Lib.hid (rt_none h0)
  obtain ⟨b, hb⟩ : ∃ b, b = l[0] := ⟨_, rfl⟩
  rw [← hb] at hc hs HTO HBA HAL HNO
  clear hb
  obtain ⟨m, hm⟩ : ∃ m, m = l.length - 1 := ⟨_, rfl⟩
  have hml : (l.length : Int) - 1 = (m : Int) := by omega
  have HM := Lib.hid hm
  have HCS := Lib.hid hcs
  have HZ := Lib.hid hz
  have h0' : (0 : Int) < (l.length : Int) := by omega
  have hs1 : (b.size : Int) = 64 := by omega
  have HS := Lib.hid hs
  have HF := Lib.hid (fun g => ext_foot b hs 0 g)
  have HFO : Hid (∀ g, g < 65536 → endK b = footK 0 g → folK b = g) := Lib.hid (fun g hg h => fol_foot h hg)
  clear hcs hz hm hlc ht
  go_enter Try.func27, Try.ntmps27
  go_wp2_with fail
  go_loopw [4] (fun F wr => ∃ f : Nat, 1 ≤ f ∧ f ≤ 65536 ∧ F = .int .i64 f ∧ Hid (∀ g, 1 ≤ g → g < f → ¬ endK b = footK 0 g) ∧ Hid (Q w wr)) (fun F _ => 65536 - (intOf F).toNat)
  case atStart => exact ⟨1, Nat.le_refl _, by omega, rfl, Lib.hid (fun g h1 h2 => absurd h2 (by omega)), Lib.hid (Q.refl _)⟩
  case round =>
    obtain ⟨f, hf1, hf2, rfl, HN, HQ⟩ := hrel
    by_cases hlt : f < 65536
    · have hlt' : (f : Int) < 65536 := by omega
      have F := Lib.hid fun w => foot_any 0 f w hlt
      rw [show decide (0 = 0) = true from rfl] at F
      obtain ⟨FT, hFT⟩ : ∃ FT, FT = mk (footK 0 f) := ⟨_, rfl⟩
      have HEQ := Lib.hid (HF.out f)
      rw [← hFT] at F HEQ
      clear hFT
      obtain ⟨wo, hwo⟩ : ∃ x, x = wr := ⟨_, rfl⟩
      subst hwo
      have KS : Hid (∀ x, Q wo x → (fun (W : World) => W.cell? a = some (.string b)) x) := Lib.hid (fun x q => ((HQ.out.trans q).cell ha).trans hc)
      have qd := (Q.refl wo).drew
      go_upto_region 5 with fail
      go_cut [18] from 12 to 18 (fun R wx => ∃ q : Bool, R = .bool q ∧ Hid (q = decide (endK b = footK 0 f)) ∧ Hid (Q wo wx))
      case first =>
        refine wp_region_held_drew (S := (fun (W : World) => W.cell? a = some (.string b))) (by kernel_rfl) (KS.out _ qd) (fun hHeld => ?_)
        obtain ⟨wd, hwd⟩ : ∃ z, z = wo.drew := ⟨_, rfl⟩
        rw [← hwd] at qd hHeld ⊢
        clear hwd
        refine tkV 0 ?_
        refine tkV 1 ?_
        refine tkV 2 ?_
        refine tkB 3 (.string (b.extract 60 64)) ?_
        refine tkV 4 ?_
        refine aR [5] ?_
        refine AllReadyH.cons (o := _) rfl (fun K hK => ?_) AllReadyH.nil
        go_simp
        go_at_call 24
        refine (F.out _).mono ?_
        rintro e w5 ⟨rfl, q5⟩
        have Q5 := Lib.hid (qd.trans q5)
        clear q5 hHeld
        refine hK.out _ _ (KS.out _ Q5.out) (fun hHeld => ?_)
        clear hK K
        refine pg ?_
        by_cases hq : b.extract 60 64 = FT
        · have he : ((b.extract 60 64).toList == FT.toList) = true := by rw [hq]; simp
          refine tkB 6 (.bool true) ?_
          refine wpAnyH_done (by kernel_rfl) ?_ _
          go_wp2_with fail
          go_meet
          exact ⟨true, rfl, Lib.hid (by simp [HEQ.out.1 hq]), Q5⟩
        · have he : ((b.extract 60 64).toList == FT.toList) = false := by rw [eq_texts]; simp [hq]
          refine tkB 6 (.bool false) ?_
          refine wpAnyH_done (by kernel_rfl) ?_ _
          go_wp2_with fail
          go_meet
          exact ⟨false, rfl, Lib.hid (by simp; exact fun h => hq (HEQ.out.2 h)), Q5⟩
      case rest =>
      obtain ⟨q, rfl, HR, HQ2⟩ := hcut
      rename World => w7
      clear KS qd
      have Q7 := Lib.hid (HQ.out.trans HQ2.out)
      cases q with
      | false =>
        have hne : ¬ endK b = footK 0 f := by have := HR.out; simpa using this
        have HN2 : Hid (∀ g, 1 ≤ g → g < f + 1 → ¬ endK b = footK 0 g) := Lib.hid (fun g h1 h2 => by
          by_cases h3 : g < f
          · exact HN.out g h1 h3
          · obtain rfl : g = f := by omega
            exact hne)
        clear hne
        go_wp2_with fail
        go_roundw
        case rel => exact ⟨f + 1, by omega, by omega, by go_num, HN2, Q7⟩
        case measure => simp [intOf]; omega
      | true =>
        have heq : endK b = footK 0 f := by have := HR.out; simpa using this
        have hfo := HFO.out f hlt heq
        have HTO2 := Lib.hid (fun i => HTO.out f i hfo)
        have HBA2 := Lib.hid (fun i => HBA.out f i hfo)
        have HAL2 := Lib.hid (HAL.out f hfo)
        clear heq hfo HTO HBA HAL HNO HN HEQ
        go_wp2_with fail
        go_loopw [5] (fun I wr => ∃ i : Nat, i ≤ l.length ∧ I = .int .i64 i ∧ Hid (∀ q (hq : q < l.length), q < i → q < f ∧ endK l[q] = footK q (f - q)) ∧ Hid (Q w wr)) (fun I _ => l.length - (intOf I).toNat)
        case atStart => exact ⟨0, Nat.zero_le _, rfl, Lib.hid (fun q hq h => absurd h (by omega)), Q7⟩
        case round =>
          obtain ⟨i, hi, rfl, HA, HQ⟩ := hrel
          obtain ⟨wo, hwo⟩ : ∃ x, x = wr := ⟨_, rfl⟩
          subst hwo
          by_cases hil : i < l.length
          · have hil' : (i : Int) < (l.length : Int) := by omega
            have hat : wo.cell? (a.add i) = some (.string l[i]) := (HQ.out.cell (by rw [add_block]; exact ha)).trans (HCS.out i hil)
            have hyz : l[i].size = 64 := HZ.out _ (List.getElem_mem hil)
            have HT3 := Lib.hid (fun hh => HTO2.out i hil hh HA.out)
            have HB3 := Lib.hid (HBA2.out i hil)
            have HNX : Hid (i < f → endK l[i] = footK i (f - i) → ∀ q (hq : q < l.length), q < i + 1 → q < f ∧ endK l[q] = footK q (f - q)) := Lib.hid (fun g1 g2 q hq h2 => by
              by_cases h3 : q < i
              · exact HA.out q hq h3
              · obtain rfl : q = i := by omega
                exact ⟨g1, g2⟩)
            obtain ⟨y, hy⟩ : ∃ y, y = l[i] := ⟨_, rfl⟩
            rw [← hy] at hat hyz HT3 HB3 HNX
            clear hy
            have hy1 : (y.size : Int) = 64 := by omega
            have hy63 := at_get2 y 63 (by omega)
            obtain ⟨t, ht⟩ : ∃ t, t = atK y 63 := ⟨_, rfl⟩
            rw [← ht] at hy63 HT3 HB3
            have hy2 : (63 : Int) < (y.size : Int) := by omega
            have hy3 : 63 < y.size := by omega
            have hY9 := Lib.hid hyz
            clear ht
            by_cases hT : i = m ∧ ¬ t = 165
            · obtain ⟨hT1, hT2⟩ := hT
              have e1 : ((i : Int) == (m : Int)) = true := by rw [hT1]; simp
              have e2 : ((t : Int) != 165) = true := by simp; omega
              have e3 : decide (i = m) = true := by simp [hT1]
              have HV := Lib.hid (HT3.out (by rw [hT1]; exact HM.out) hT2)
              clear hT1 hT2
              go_wp2_with fail
              go_ret
              exact ⟨by rw [HV.out]; rfl, HQ.out⟩
            · by_cases him : i = m
              · have e1 : ((i : Int) == (m : Int)) = true := by rw [him]; simp
                have e2 : ((t : Int) != 165) = false := by
                  have : t = 165 := by
                    apply Classical.byContradiction; intro h; exact hT ⟨him, h⟩
                  subst this; rfl
                have e3 : decide (i = m) = true := by simp [him]
                clear him
                have HB4 := Lib.hid (HB3.out (by rw [← HM.out]; exact hT))
                by_cases hfi : i < f
                · obtain ⟨d, hd⟩ : ∃ d, d = f - i := ⟨_, rfl⟩
                  have g1 : (f : Int) - (i : Int) = (d : Int) := by omega
                  have g2 : ¬ (d : Int) < 1 := by omega
                  have g3 : d < 65536 := by omega
                  have g4 : IntKind.i64.wrap ((d : Nat) : Int) = (d : Int) := by rw [IntKind.wrap_i64]; omega
                  have F2 := Lib.hid fun w => foot_any i d w g3
                  have HEQ2 := Lib.hid (ext_foot y hY9.out i d)
                  rw [← hd] at HB4 HNX
                  obtain ⟨FT2, hFT2⟩ : ∃ FT, FT = mk (footK i d) := ⟨_, rfl⟩
                  rw [← hFT2] at F2 HEQ2
                  have e6 : ((i : Int) == 0) = decide (i = 0) := by
                    by_cases h : i = 0
                    · subst h; rfl
                    · simp [h]
                  have KS : Hid (∀ x, Q wo x → (fun (W : World) => W.cell? (a.add i) = some (.string y)) x) := Lib.hid (fun x q => (q.cell (by rw [add_block]; have := HQ.out.size; omega)).trans hat)
                  have qd := (Q.refl wo).drew
                  clear hd hFT2 hT
                  go_upto_region 11 with fail
                  refine wp_region_held_drew (S := (fun (W : World) => W.cell? (a.add i) = some (.string y))) (by kernel_rfl) (KS.out _ qd) (fun hHeld => ?_)
                  obtain ⟨wd, hwd⟩ : ∃ z, z = wo.drew := ⟨_, rfl⟩
                  rw [← hwd] at qd hHeld ⊢
                  clear hwd
                  refine tkV 0 ?_
                  refine tkV 1 ?_
                  refine tkB 2 (.int .i64 (d : Nat)) ?_
                  refine tkB 3 (.bool false) ?_
                  refine tkV 4 ?_
                  refine tkV 5 ?_
                  refine tkV 6 ?_
                  refine tkB 7 (.pointer (some (a.add i))) ?_
                  refine tkV 8 ?_
                  refine tkB 9 (.string (y.extract 60 64)) ?_
                  refine tkV 10 ?_
                  refine tkV 11 ?_
                  refine tkB 12 (.int .i64 (d : Nat)) ?_
                  refine tkV 13 ?_
                  refine tkB 14 (.bool (decide (i = 0))) ?_
                  refine aR [15] ?_
                  refine AllReadyH.cons (o := _) rfl (fun K hK => ?_) AllReadyH.nil
                  go_simp
                  go_at_call 24
                  refine (F2.out _).mono ?_
                  rintro e w5 ⟨rfl, q5⟩
                  have Q5 := Lib.hid (qd.trans q5)
                  clear q5 hHeld
                  refine hK.out _ _ (KS.out _ Q5.out) (fun hHeld => ?_)
                  clear hK K
                  refine pg ?_
                  by_cases hq : y.extract 60 64 = FT2
                  · have he : ((y.extract 60 64).toList == FT2.toList) = true := by rw [hq]; simp
                    have HX := Lib.hid (HNX.out hfi (HEQ2.out.1 hq))
                    refine tkB 16 (.bool false) ?_
                    refine tkV 17 ?_
                    refine wpAnyH_done (by kernel_rfl) ?_ _
                    clear hq he
                    go_wp2_with fail
                    go_roundw
                    case rel => exact ⟨i + 1, by omega, by go_num, HX, Lib.hid (HQ.out.trans Q5.out)⟩
                    case measure => simp [intOf]; omega
                  · have he : ((y.extract 60 64).toList == FT2.toList) = false := by rw [eq_texts]; simp [hq]
                    have HV := Lib.hid (HB4.out (.inr (fun h => hq (HEQ2.out.2 h))))
                    refine tkB 16 (.bool true) ?_
                    refine tkV 17 ?_
                    refine wpAnyH_done (by kernel_rfl) ?_ _
                    clear hq he
                    go_wp2_with fail
                    go_ret
                    exact ⟨by rw [HV.out]; rfl, HQ.out.trans Q5.out⟩
                · have g1 : (f : Int) - (i : Int) < 1 := by omega
                  have HV := Lib.hid (HB4.out (.inl (by omega)))
                  have g2 : decide ((f : Int) - (i : Int) < 1) = true := by simpa using g1
                  clear hT hfi
                  go_upto_region 11 with fail
                  go_quiet (fail)
                  go_wp2_with fail
                  go_ret
                  exact ⟨by rw [HV.out]; rfl, HQ.out.drewN _⟩
              · have e1 : ((i : Int) == (m : Int)) = false := beq_false_of_ne (by omega)
                have e3 : decide (i = m) = false := by simp [him]
                clear him
                have HB4 := Lib.hid (HB3.out (by rw [← HM.out]; exact hT))
                by_cases hfi : i < f
                · obtain ⟨d, hd⟩ : ∃ d, d = f - i := ⟨_, rfl⟩
                  have g1 : (f : Int) - (i : Int) = (d : Int) := by omega
                  have g2 : ¬ (d : Int) < 1 := by omega
                  have g3 : d < 65536 := by omega
                  have g4 : IntKind.i64.wrap ((d : Nat) : Int) = (d : Int) := by rw [IntKind.wrap_i64]; omega
                  have F2 := Lib.hid fun w => foot_any i d w g3
                  have HEQ2 := Lib.hid (ext_foot y hY9.out i d)
                  rw [← hd] at HB4 HNX
                  obtain ⟨FT2, hFT2⟩ : ∃ FT, FT = mk (footK i d) := ⟨_, rfl⟩
                  rw [← hFT2] at F2 HEQ2
                  have e6 : ((i : Int) == 0) = decide (i = 0) := by
                    by_cases h : i = 0
                    · subst h; rfl
                    · simp [h]
                  have KS : Hid (∀ x, Q wo x → (fun (W : World) => W.cell? (a.add i) = some (.string y)) x) := Lib.hid (fun x q => (q.cell (by rw [add_block]; have := HQ.out.size; omega)).trans hat)
                  have qd := (Q.refl wo).drew
                  clear hd hFT2 hT
                  go_upto_region 11 with fail
                  refine wp_region_held_drew (S := (fun (W : World) => W.cell? (a.add i) = some (.string y))) (by kernel_rfl) (KS.out _ qd) (fun hHeld => ?_)
                  obtain ⟨wd, hwd⟩ : ∃ z, z = wo.drew := ⟨_, rfl⟩
                  rw [← hwd] at qd hHeld ⊢
                  clear hwd
                  refine tkV 0 ?_
                  refine tkV 1 ?_
                  refine tkB 2 (.int .i64 (d : Nat)) ?_
                  refine tkB 3 (.bool false) ?_
                  refine tkV 4 ?_
                  refine tkV 5 ?_
                  refine tkV 6 ?_
                  refine tkB 7 (.pointer (some (a.add i))) ?_
                  refine tkV 8 ?_
                  refine tkB 9 (.string (y.extract 60 64)) ?_
                  refine tkV 10 ?_
                  refine tkV 11 ?_
                  refine tkB 12 (.int .i64 (d : Nat)) ?_
                  refine tkV 13 ?_
                  refine tkB 14 (.bool (decide (i = 0))) ?_
                  refine aR [15] ?_
                  refine AllReadyH.cons (o := _) rfl (fun K hK => ?_) AllReadyH.nil
                  go_simp
                  go_at_call 24
                  refine (F2.out _).mono ?_
                  rintro e w5 ⟨rfl, q5⟩
                  have Q5 := Lib.hid (qd.trans q5)
                  clear q5 hHeld
                  refine hK.out _ _ (KS.out _ Q5.out) (fun hHeld => ?_)
                  clear hK K
                  refine pg ?_
                  by_cases hq : y.extract 60 64 = FT2
                  · have he : ((y.extract 60 64).toList == FT2.toList) = true := by rw [hq]; simp
                    have HX := Lib.hid (HNX.out hfi (HEQ2.out.1 hq))
                    refine tkB 16 (.bool false) ?_
                    refine tkV 17 ?_
                    refine wpAnyH_done (by kernel_rfl) ?_ _
                    clear hq he
                    go_wp2_with fail
                    go_roundw
                    case rel => exact ⟨i + 1, by omega, by go_num, HX, Lib.hid (HQ.out.trans Q5.out)⟩
                    case measure => simp [intOf]; omega
                  · have he : ((y.extract 60 64).toList == FT2.toList) = false := by rw [eq_texts]; simp [hq]
                    have HV := Lib.hid (HB4.out (.inr (fun h => hq (HEQ2.out.2 h))))
                    refine tkB 16 (.bool true) ?_
                    refine tkV 17 ?_
                    refine wpAnyH_done (by kernel_rfl) ?_ _
                    clear hq he
                    go_wp2_with fail
                    go_ret
                    exact ⟨by rw [HV.out]; rfl, HQ.out.trans Q5.out⟩
                · have g1 : (f : Int) - (i : Int) < 1 := by omega
                  have HV := Lib.hid (HB4.out (.inl (by omega)))
                  have g2 : decide ((f : Int) - (i : Int) < 1) = true := by simpa using g1
                  clear hT hfi
                  go_upto_region 11 with fail
                  go_quiet (fail)
                  go_wp2_with fail
                  go_ret
                  exact ⟨by rw [HV.out]; rfl, HQ.out.drewN _⟩
          · obtain rfl : i = l.length := by omega
            have HV := Lib.hid (HAL2.out HA.out)
            go_wp2_with fail
            go_ret
            exact ⟨by rw [HV.out]; rfl, HQ.out⟩
    · obtain rfl : f = 65536 := by omega
      have HV := Lib.hid (HNO.out HN.out)
      have hb63 := at_get2 b 63 (by have := HS.out; omega)
      obtain ⟨t, ht⟩ : ∃ t, t = atK b 63 := ⟨_, rfl⟩
      rw [← ht] at hb63 HV
      have hy2 : (63 : Int) < (b.size : Int) := by omega
      have hy3 : 63 < b.size := by omega
      have hat : wr.cell? a = some (.string b) := (HQ.out.cell ha).trans hc
      clear ht
      by_cases h1 : l.length = 1
      · have e1 : ((l.length : Int) == 1) = true := by rw [h1]; rfl
        have e3 : decide (l.length = 1) = true := by simp [h1]
        have HV2 : Hid (tailK l = !decide (t = 165)) := Lib.hid (by rw [HV.out, e3]; rfl)
        have e4 : ((t : Int) != 165) = !decide (t = 165) := by
          by_cases h : t = 165
          · subst h; rfl
          · simp [h]; omega
        clear h1
        go_wp2_with fail
        go_ret
        exact ⟨by rw [HV2.out]; rfl, HQ.out⟩
      · have e1 : ((l.length : Int) == 1) = false := beq_false_of_ne (by omega)
        have e3 : decide (l.length = 1) = false := by simp [h1]
        have HV2 : Hid (tailK l = false) := Lib.hid (by rw [HV.out, e3]; rfl)
        clear h1
        go_wp2_with fail
        go_ret
        exact ⟨by rw [HV2.out]; rfl, HQ.out⟩
end Go.Proofs.Ytpcanlafbcdmcaa
