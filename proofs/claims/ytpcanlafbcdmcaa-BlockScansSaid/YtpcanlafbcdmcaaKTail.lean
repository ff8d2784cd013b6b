/-
  Contract of the program's isTail.
-/
import Derived.Test.YtpcanlafbcdmcaaKPrg2
import Derived.Test.YtpcanlafbcdmcaaKTcs
namespace Go.Proofs.Ytpcanlafbcdmcaa
set_option maxRecDepth 100000
open Go.ChangeShapes Go.WideShapes Go.ChangeAt Go.RowKit
set_option linter.unusedVariables false
set_option linter.unusedSimpArgs false
set_option maxRecDepth 100000

theorem tail_form {l : List ByteArray} (h0 : 0 < l.length) : tailK l = true ↔ l.length - 1 ≤ folK (l[0]'h0) ∧ (∀ i (h : i < l.length - 1), endK (l[i]'(by omega)) = footK i (folK (l[0]'h0) - i)) ∧
    (¬ atK (l[l.length - 1]'(by omega)) 63 = 165 ∨ (l.length - 1 < folK (l[0]'h0) ∧ endK (l[l.length - 1]'(by omega)) = footK (l.length - 1) (folK (l[0]'h0) - (l.length - 1)))) := by
  cases l with
  | nil => cases h0
  | cons b r =>
    rw [tailK_iff]
    have e : (b :: r).length - 1 = r.length := rfl
    have g : ∀ i (h : i < r.length + 1), (b :: r)[i]? = some ((b :: r)[i]'h) := fun i h => List.getElem?_eq_getElem h
    simp only [e]
    constructor
    · rintro ⟨h1, h2, h3⟩
      refine ⟨h1, fun i h => ?_, ?_⟩
      · have := h2 i h
        rw [g i (by omega), Option.map_some] at this
        injection this
      · rw [g r.length (by omega), Option.map_some, Option.map_some] at h3
        rcases h3 with h3 | ⟨h3, h4⟩
        · exact .inl fun h => h3 (by rw [h])
        · injection h4 with h4
          exact .inr ⟨h3, h4⟩
    · rintro ⟨h1, h2, h3⟩
      refine ⟨h1, fun i h => ?_, ?_⟩
      · rw [g i (by omega), Option.map_some, h2 i h]; rfl
      · rw [g r.length (by omega), Option.map_some, Option.map_some]
        rcases h3 with h3 | ⟨h3, h4⟩
        · exact .inl fun h => h3 (by injection h)
        · exact .inr ⟨h3, by rw [h4]; rfl⟩
theorem tail_no1 {l : List ByteArray} (h0 : 0 < l.length) (h : folK (l[0]'h0) < l.length - 1) : tailK l = false := by
  cases ht : tailK l with
  | false => rfl
  | true => have := ((tail_form h0).1 ht).1; omega
theorem tail_no2 {l : List ByteArray} (h0 : 0 < l.length) (i : Nat) (hi : i < l.length - 1) (h : ¬ endK (l[i]'(by omega)) = footK i (folK (l[0]'h0) - i)) : tailK l = false := by
  cases ht : tailK l with
  | false => rfl
  | true => exact absurd (((tail_form h0).1 ht).2.1 i hi) h
theorem tail_end {l : List ByteArray} (h0 : 0 < l.length) (h1 : l.length - 1 ≤ folK (l[0]'h0)) (h2 : ∀ i (h : i < l.length - 1), endK (l[i]'(by omega)) = footK i (folK (l[0]'h0) - i)) :
    tailK l = (!decide (atK (l[l.length - 1]'(by omega)) 63 = 165) || (decide (l.length - 1 < folK (l[0]'h0)) && decide (endK (l[l.length - 1]'(by omega)) = footK (l.length - 1) (folK (l[0]'h0) - (l.length - 1))))) := by
  rw [Bool.eq_iff_iff, tail_form h0]
  simp only [Bool.or_eq_true, Bool.not_eq_true', decide_eq_false_iff_not, Bool.and_eq_true, decide_eq_true_eq]
  exact ⟨fun h => h.2.2, fun h => ⟨h1, h2, h⟩⟩
theorem endK_eq (b : ByteArray) (hb : b.size = 64) : endK b = [(atK b 60).toUInt8, (atK b 61).toUInt8, (atK b 62).toUInt8, (atK b 63).toUInt8] := by
  have hl : (bl b).length = 64 := by rw [bl_length, hb]
  have g : ∀ i (h : i < (bl b).length), (atK b i).toUInt8 = (bl b)[i] := fun i h => by rw [atK, List.getElem?_eq_getElem h]; simp
  rw [g 60 (by omega), g 61 (by omega), g 62 (by omega), g 63 (by omega), endK]
  apply List.ext_getElem
  · simp only [List.length_drop, hl, List.length_cons, List.length_nil]
  · intro i h1 h2
    rw [List.getElem_drop]
    have : i < 4 := h2
    match i, this with
    | 0, _ => rfl
    | 1, _ => rfl
    | 2, _ => rfl
    | 3, _ => rfl
theorem u8_inj {a b : Nat} (ha : a < 256) (hb : b < 256) (h : a.toUInt8 = b.toUInt8) : a = b := by
  have := congrArg UInt8.toNat h
  simp at this; omega
theorem int_beq (a b : Nat) : ((a : Int) == (b : Int)) = decide (a = b) := by
  by_cases h : a = b
  · subst h; simp
  · simp [h]; omega
/-- Held against what a record's block has. -/
theorem end_dec (b : ByteArray) (hb : b.size = 64) (p f : Nat) : (((atK b 60 : Nat) : Int) == ((f % 256 : Nat) : Int) && ((atK b 61 : Nat) : Int) == ((f / 256 % 256 : Nat) : Int) && ((atK b 62 : Nat) : Int) == ((if p = 0 then 1 else 2 : Nat) : Int) && ((atK b 63 : Nat) : Int) == ((165 : Nat) : Int)) = decide (endK b = footK p f) := by
  rw [endK_eq b hb, int_beq, int_beq, int_beq, int_beq, Bool.eq_iff_iff]
  simp only [Bool.and_eq_true, decide_eq_true_eq]
  have h0 := atK_lt b 60
  have h1 := atK_lt b 61
  have h2 := atK_lt b 62
  have h3 := atK_lt b 63
  constructor
  · rintro ⟨⟨⟨e0, e1⟩, e2⟩, e3⟩
    rw [e0, e1, e2, e3, footK]
    split <;> rfl
  · intro h
    rw [footK] at h
    injection h with e0 h
    injection h with e1 h
    injection h with e2 h
    injection h with e3 h
    refine ⟨⟨⟨u8_inj h0 (by omega) e0, u8_inj h1 (by omega) e1⟩, ?_⟩, u8_inj h3 (by omega) e3⟩
    by_cases hp : p = 0
    · rw [if_pos hp] at e2 ⊢; exact u8_inj h2 (by omega) e2
    · rw [if_neg hp] at e2 ⊢; exact u8_inj h2 (by omega) e2
theorem eq_foot (b : ByteArray) (hb : b.size = 64) (p f : Nat) (w : World) : (Op.equalIn 10000 55 (endB b) (endP p f)).run Try.prog w = .ok (decide (endK b = footK p f)) w := by
  rw [← end_dec b hb p f]
  exact eq_end w _ _ _ _ _ _ _ _
set_option maxHeartbeats 8000000 in
theorem tail_any (l : List ByteArray) (v : Value) (w : World) (h0 : 0 < l.length) (hz : ∀ b ∈ l, b.size = 64) (hl : l.length ≤ 1000000) (ht : Tcs w w.heap.size v l) :
    Calls Try.prog 26 #[v] w fun e w' => e = .returned (.bool (tailK l)) ∧ Q w w' := by
  obtain ⟨a, c, rfl, hlc, ha, hcs⟩ := ht.at h0
  have hc := hcs 0 h0
  rw [show a.add 0 = a by cases a; simp [Addr.add]] at hc
  have hs := hz l[0] (List.getElem_mem h0)
  have HN1 := Lib.hid (tail_no1 h0)
  have HN2 := Lib.hid (tail_no2 h0)
  have HTE := Lib.hid (tail_end h0)
  have hfl := fol_lt l[0]
  have hxx : folK l[0] = atK l[0] 60 + 256 * atK l[0] 61 := rfl
  obtain ⟨b, hb⟩ : ∃ b, b = l[0] := ⟨_, rfl⟩
  rw [← hb] at hc hs HN1 HN2 HTE hfl hxx
  clear hb
  obtain ⟨f, hf⟩ : ∃ f, f = folK b := ⟨_, rfl⟩
  rw [← hf] at HN1 HN2 HTE hfl hxx
  have E0 := Lib.hid fun w => endOf_any b w hs
  have F0 := Lib.hid fun w => follow_any (atK b 60) (atK b 61) (atK b 62) (atK b 63) w (atK_lt _ _) (atK_lt _ _)
  rw [← hxx] at F0
  rw [endB] at E0
  obtain ⟨m, hm⟩ : ∃ m, m = l.length - 1 := ⟨_, rfl⟩
  have hml : (l.length : Int) - 1 = (m : Int) := by omega
  have HM := Lib.hid hm
  have HCS := Lib.hid hcs
  have HZ := Lib.hid hz
  have hmc : m ≤ c := by omega
  have hmc' : (m : Int) ≤ (c : Int) := by omega
  have hm9 : m ≤ 1000000 := by omega
  have hc0 : ¬ c = 0 := by omega
  have h0' : (0 : Int) < (l.length : Int) := by omega
  have hmlt : m < l.length := by omega
  have hmlt' : (m : Int) < (l.length : Int) := by omega
  obtain ⟨x0, hx0⟩ : ∃ x0, x0 = atK b 60 := ⟨_, rfl⟩
  obtain ⟨x1, hx1⟩ : ∃ x1, x1 = atK b 61 := ⟨_, rfl⟩
  obtain ⟨x2, hx2⟩ : ∃ x2, x2 = atK b 62 := ⟨_, rfl⟩
  obtain ⟨x3, hx3⟩ : ∃ x3, x3 = atK b 63 := ⟨_, rfl⟩
  rw [← hx0, ← hx1, ← hx2, ← hx3] at E0 F0
  rw [endV] at E0 F0
  have HT := Lib.hid ht
  clear hf hxx hcs hz hm hlc hx0 hx1 hx2 hx3 ht
  by_cases hlt : f < m
  · have hlt' : (f : Int) < (m : Int) := by omega
    have HV := Lib.hid (HN1.out (by rw [← HM.out]; exact hlt))
    clear HN1 HN2 HTE
    go_enter Try.func26, Try.ntmps26
    go_wp2_with fail
    refine (E0.out _).mono ?_
    rintro e w1 ⟨rfl, q1⟩
    go_wp2_with fail
    refine (F0.out _).mono ?_
    rintro e w2 ⟨rfl, q2⟩
    go_wp2_with fail
    go_ret
    exact ⟨by rw [HV.out]; rfl, q1.trans q2⟩
  · have hlt' : ¬ (f : Int) < (m : Int) := by omega
    clear HN1
    go_enter Try.func26, Try.ntmps26
    go_wp2_with fail
    refine (E0.out _).mono ?_
    rintro e w1 ⟨rfl, q1⟩
    go_wp2_with fail
    refine (F0.out _).mono ?_
    rintro e w2 ⟨rfl, q2⟩
    have Q2 := Lib.hid (q1.trans q2)
    clear E0 F0 q1 q2
    go_wp2_with fail
    go_loopw [23] (fun I wr => ∃ j : Nat, j ≤ m ∧ I = .int .i64 j ∧ Hid (∀ i (h : i < l.length), i < j → endK l[i] = footK i (f - i)) ∧ Hid (Q w wr)) (fun I _ => m - (intOf I).toNat)
    case atStart => exact ⟨0, Nat.zero_le _, rfl, Lib.hid (fun i h h2 => absurd h2 (by omega)), Q2⟩
    case round =>
      obtain ⟨j, hj, rfl, HA, HQ⟩ := hrel
      clear Q2
      by_cases hlt2 : j < m
      · have hjl : j < l.length := by omega
        have hat : wr.cell? (a.add j) = some (.string l[j]) := (HQ.out.cell (by rw [add_block]; exact ha)).trans (HCS.out j hjl)
        have hyz : l[j].size = 64 := HZ.out _ (List.getElem_mem hjl)
        have HY := Lib.hid (HN2.out j (by rw [← HM.out]; exact hlt2))
        have HNX : Hid (endK l[j] = footK j (f - j) → ∀ i (h : i < l.length), i < j + 1 → endK l[i] = footK i (f - i)) := Lib.hid (fun hh i h h2 => by
          by_cases h3 : i < j
          · exact HA.out i h h3
          · obtain rfl : i = j := by omega
            exact hh)
        obtain ⟨y, hy⟩ : ∃ y, y = l[j] := ⟨_, rfl⟩
        rw [← hy] at hat hyz HY HNX
        clear hy
        have E1 := Lib.hid fun w => endOf_any y w hyz
        obtain ⟨d, hd⟩ : ∃ d, d = f - j := ⟨_, rfl⟩
        rw [← hd] at HY HNX
        have hdi : (f : Int) - (j : Int) = (d : Int) := by omega
        have A1 := Lib.hid fun w => endAt_any j d w (by omega) (by omega)
        have EQ := fun w => eq_foot y hyz j d w
        rw [endB] at E1
        rw [endP] at A1
        rw [endB, endP] at EQ
        obtain ⟨y0, hy0⟩ : ∃ x0, x0 = atK y 60 := ⟨_, rfl⟩
        obtain ⟨y1, hy1⟩ : ∃ x1, x1 = atK y 61 := ⟨_, rfl⟩
        obtain ⟨y2, hy2⟩ : ∃ x2, x2 = atK y 62 := ⟨_, rfl⟩
        obtain ⟨y3, hy3⟩ : ∃ x3, x3 = atK y 63 := ⟨_, rfl⟩
        rw [← hy0, ← hy1, ← hy2, ← hy3] at E1 EQ
        obtain ⟨z0, hz0⟩ : ∃ x0, x0 = d % 256 := ⟨_, rfl⟩
        obtain ⟨z1, hz1⟩ : ∃ x1, x1 = d / 256 % 256 := ⟨_, rfl⟩
        obtain ⟨z2, hz2⟩ : ∃ x2 : Nat, x2 = if j = 0 then 1 else 2 := ⟨_, rfl⟩
        obtain ⟨z3, hz3⟩ : ∃ x3 : Nat, x3 = 165 := ⟨_, rfl⟩
        rw [← hz0, ← hz1, ← hz2, ← hz3] at A1 EQ
        rw [endV] at E1 A1
        simp only [endV] at EQ
        have hjm : (j : Int) < (m : Int) := by omega
        clear hy0 hy1 hy2 hy3 hz0 hz1 hz2 hz3 hd
        by_cases hh : endK y = footK j d
        · have HH := Lib.hid (HNX.out hh)
          have hR : decide (endK y = footK j d) = true := by simp [hh]
          rw [hR] at EQ
          clear hR hh HY HNX
          go_wp2_with fail
          refine (E1.out _).mono ?_
          rintro e w3 ⟨rfl, q3⟩
          go_wp2_with fail
          refine (A1.out _).mono ?_
          rintro e w4 ⟨rfl, q4⟩
          go_wp2_with fail
          go_roundw
          case rel => exact ⟨j + 1, by omega, by go_num, HH, Lib.hid ((HQ.out.trans q3).trans q4)⟩
          case measure => simp [intOf]; omega
        · have HV := Lib.hid (HY.out hh)
          have hR : decide (endK y = footK j d) = false := by simp [hh]
          rw [hR] at EQ
          clear hR hh HY HNX
          go_wp2_with fail
          refine (E1.out _).mono ?_
          rintro e w3 ⟨rfl, q3⟩
          go_wp2_with fail
          refine (A1.out _).mono ?_
          rintro e w4 ⟨rfl, q4⟩
          go_wp2_with fail
          go_ret
          exact ⟨by rw [HV.out]; rfl, (HQ.out.trans q3).trans q4⟩
      · obtain rfl : j = m := by omega
        have HV := Lib.hid (HTE.out (by rw [← HM.out]; omega) (fun i h => HA.out i (by have := HM.out; omega) (by have := HM.out; omega)))
        have hat : wr.cell? (a.add j) = some (.string (l[j]'hmlt)) := (HQ.out.cell (by rw [add_block]; exact ha)).trans (HCS.out j hmlt)
        have hyz : (l[j]'hmlt).size = 64 := HZ.out _ (List.getElem_mem hmlt)
        have HV2 : Hid (tailK l = (!decide (atK (l[j]'hmlt) 63 = 165) || (decide (j < f) && decide (endK (l[j]'hmlt) = footK j (f - j))))) := Lib.hid (by
          rw [HV.out]
          have := HM.out
          subst this
          rfl)
        clear HV HTE HN2 HA
        obtain ⟨y, hy⟩ : ∃ y, y = l[j]'hmlt := ⟨_, rfl⟩
        rw [← hy] at hat hyz HV2
        clear hy
        have E1 := Lib.hid fun w => endOf_any y w hyz
        rw [endB] at E1
        have T1 := Lib.hid fun w => torn_any (atK y 60) (atK y 61) (atK y 62) (atK y 63) w
        obtain ⟨d, hd⟩ : ∃ d, d = f - j := ⟨_, rfl⟩
        rw [← hd] at HV2
        have hdi : (f : Int) - (j : Int) = (d : Int) := by omega
        have A1 := Lib.hid fun w => endAt_any j d w (by omega) (by omega)
        have EQ := fun w => eq_foot y hyz j d w
        rw [endP] at A1
        rw [endB, endP] at EQ
        rw [endV] at T1
        obtain ⟨y0, hy0⟩ : ∃ x0, x0 = atK y 60 := ⟨_, rfl⟩
        obtain ⟨y1, hy1⟩ : ∃ x1, x1 = atK y 61 := ⟨_, rfl⟩
        obtain ⟨y2, hy2⟩ : ∃ x2, x2 = atK y 62 := ⟨_, rfl⟩
        obtain ⟨y3, hy3⟩ : ∃ x3, x3 = atK y 63 := ⟨_, rfl⟩
        rw [← hy0, ← hy1, ← hy2, ← hy3] at E1 T1 EQ
        rw [← hy3] at HV2
        obtain ⟨z0, hz0⟩ : ∃ x0, x0 = d % 256 := ⟨_, rfl⟩
        obtain ⟨z1, hz1⟩ : ∃ x1, x1 = d / 256 % 256 := ⟨_, rfl⟩
        obtain ⟨z2, hz2⟩ : ∃ x2 : Nat, x2 = if j = 0 then 1 else 2 := ⟨_, rfl⟩
        obtain ⟨z3, hz3⟩ : ∃ x3 : Nat, x3 = 165 := ⟨_, rfl⟩
        rw [← hz0, ← hz1, ← hz2, ← hz3] at A1
        rw [← hz0, ← hz1, ← hz2] at EQ
        have EQ2 : ∀ w, (Op.equalIn 10000 55 (endV y0 y1 y2 y3) (endV z0 z1 z2 z3)).run Try.prog w = .ok (decide (endK y = footK j d)) w := by rw [hz3]; exact EQ
        rw [endV] at E1 A1
        simp only [endV] at EQ2
        obtain ⟨TB, hTB⟩ : ∃ TB, TB = (!decide (y3 = 165)) := ⟨_, rfl⟩
        rw [← hTB] at HV2 T1
        obtain ⟨RB, hRB⟩ : ∃ RB, RB = decide (endK y = footK j d) := ⟨_, rfl⟩
        rw [← hRB] at HV2 EQ2
        clear hy0 hy1 hy2 hy3 hz0 hz1 hz2 hz3 hd EQ hTB hRB
        go_wp2_with fail
        cases TB with
        | true =>
          have HV3 : Hid (tailK l = true) := Lib.hid (by rw [HV2.out]; rfl)
          refine (E1.out _).mono ?_
          rintro e w3 ⟨rfl, q3⟩
          go_wp2_with fail
          obtain ⟨g, hg⟩ : ∃ g, g = w3.heap.size := ⟨_, rfl⟩
          have bx := Bx.new w3 55 #[.int .u8 (y0 : Nat), .int .u8 (y1 : Nat), .int .u8 (y2 : Nat), .int .u8 (y3 : Nat)]
          rw [← hg] at bx
          have q4 := q3.alloc (.cells #[.int .u8 (y0 : Nat), .int .u8 (y1 : Nat), .int .u8 (y2 : Nat), .int .u8 (y3 : Nat)] 55)
          rw [← hg]
          obtain ⟨W4, hW4⟩ : ∃ W4, W4 = w3.alloc (.cells #[.int .u8 (y0 : Nat), .int .u8 (y1 : Nat), .int .u8 (y2 : Nat), .int .u8 (y3 : Nat)] 55) := ⟨_, rfl⟩
          rw [← hW4] at bx q4 ⊢
          have KS : Hid (∀ x, Q W4 x → (fun (W : World) => W.cell? ⟨g, 0, none⟩ = some (.int .u8 (y0 : Nat)) ∧ W.cell? ⟨g, 1, none⟩ = some (.int .u8 (y1 : Nat)) ∧ W.cell? ⟨g, 2, none⟩ = some (.int .u8 (y2 : Nat)) ∧ W.cell? ⟨g, 3, none⟩ = some (.int .u8 (y3 : Nat))) x) := Lib.hid (fun x q => ⟨(bx.on q).cell 0, (bx.on q).cell 1, (bx.on q).cell 2, (bx.on q).cell 3⟩)
          have Q4 := Lib.hid (HQ.out.trans q4)
          have qd := (Q.refl W4).drew
          clear hg hW4 q3 q4 HQ bx
          refine wp_region_held_drew (S := (fun (W : World) => W.cell? ⟨g, 0, none⟩ = some (.int .u8 (y0 : Nat)) ∧ W.cell? ⟨g, 1, none⟩ = some (.int .u8 (y1 : Nat)) ∧ W.cell? ⟨g, 2, none⟩ = some (.int .u8 (y2 : Nat)) ∧ W.cell? ⟨g, 3, none⟩ = some (.int .u8 (y3 : Nat)))) (by kernel_rfl) (KS.out _ qd) (fun hHeld => ?_)
          obtain ⟨wd, hwd⟩ : ∃ z, z = W4.drew := ⟨_, rfl⟩
          rw [← hwd] at qd hHeld ⊢
          clear hwd
          refine tkV 0 ?_
          refine aR [1] ?_
          refine AllReadyH.cons (o := _) rfl (fun K hK => ?_) AllReadyH.nil
          go_simp
          go_at_call 33
          refine (T1.out _).mono ?_
          rintro e w5 ⟨rfl, q5⟩
          have Q5 := Lib.hid (qd.trans q5)
          clear q5 hHeld
          refine hK.out _ _ (KS.out _ Q5.out) (fun hHeld => ?_)
          clear hK K
          refine pg ?_
          refine tkV 2 ?_
          refine tkU 3 ?_
          refine tkU 4 ?_
          refine tkU 5 ?_
          refine tkU 6 ?_
          refine tkU 7 ?_
          refine tkU 8 ?_
          refine tkU 9 ?_
          refine tkU 10 ?_
          refine tkU 11 ?_
          refine tkU 12 ?_
          refine tkU 13 ?_
          refine tkU 14 ?_
          refine tkV 15 ?_
          refine tkV 16 ?_
          refine wpAnyH_done (by kernel_rfl) ?_ _
          go_wp2_with fail
          go_ret
          exact ⟨by rw [HV3.out]; rfl, Q4.out.trans Q5.out⟩
        | false =>
          by_cases hG : j < f
          · have HV3 : Hid (tailK l = RB) := Lib.hid (by rw [HV2.out]; simp [hG])
            have hG1 : (j : Int) < (f : Int) := by omega
            refine (E1.out _).mono ?_
            rintro e w3 ⟨rfl, q3⟩
            go_wp2_with fail
            obtain ⟨g, hg⟩ : ∃ g, g = w3.heap.size := ⟨_, rfl⟩
            have bx := Bx.new w3 55 #[.int .u8 (y0 : Nat), .int .u8 (y1 : Nat), .int .u8 (y2 : Nat), .int .u8 (y3 : Nat)]
            rw [← hg] at bx
            have q4 := q3.alloc (.cells #[.int .u8 (y0 : Nat), .int .u8 (y1 : Nat), .int .u8 (y2 : Nat), .int .u8 (y3 : Nat)] 55)
            rw [← hg]
            obtain ⟨W4, hW4⟩ : ∃ W4, W4 = w3.alloc (.cells #[.int .u8 (y0 : Nat), .int .u8 (y1 : Nat), .int .u8 (y2 : Nat), .int .u8 (y3 : Nat)] 55) := ⟨_, rfl⟩
            rw [← hW4] at bx q4 ⊢
            have KS : Hid (∀ x, Q W4 x → (fun (W : World) => W.cell? ⟨g, 0, none⟩ = some (.int .u8 (y0 : Nat)) ∧ W.cell? ⟨g, 1, none⟩ = some (.int .u8 (y1 : Nat)) ∧ W.cell? ⟨g, 2, none⟩ = some (.int .u8 (y2 : Nat)) ∧ W.cell? ⟨g, 3, none⟩ = some (.int .u8 (y3 : Nat))) x) := Lib.hid (fun x q => ⟨(bx.on q).cell 0, (bx.on q).cell 1, (bx.on q).cell 2, (bx.on q).cell 3⟩)
            have Q4 := Lib.hid (HQ.out.trans q4)
            have qd := (Q.refl W4).drew
            clear hg hW4 q3 q4 HQ bx
            refine wp_region_held_drew (S := (fun (W : World) => W.cell? ⟨g, 0, none⟩ = some (.int .u8 (y0 : Nat)) ∧ W.cell? ⟨g, 1, none⟩ = some (.int .u8 (y1 : Nat)) ∧ W.cell? ⟨g, 2, none⟩ = some (.int .u8 (y2 : Nat)) ∧ W.cell? ⟨g, 3, none⟩ = some (.int .u8 (y3 : Nat)))) (by kernel_rfl) (KS.out _ qd) (fun hHeld => ?_)
            obtain ⟨wd, hwd⟩ : ∃ z, z = W4.drew := ⟨_, rfl⟩
            rw [← hwd] at qd hHeld ⊢
            clear hwd
            refine tkV 0 ?_
            refine aR [1] ?_
            refine AllReadyH.cons (o := _) rfl (fun K hK => ?_) AllReadyH.nil
            go_simp
            go_at_call 33
            refine (T1.out _).mono ?_
            rintro e w5 ⟨rfl, q5⟩
            have Q5 := Lib.hid (qd.trans q5)
            clear q5 hHeld
            refine hK.out _ _ (KS.out _ Q5.out) (fun hHeld => ?_)
            clear hK K
            refine pg ?_
            refine tkV 2 ?_
            refine tkV 3 ?_
            refine tkV 4 ?_
            refine tkB 5 (.bool true) ?_
            refine tkV 6 ?_
            refine tkV 7 ?_
            refine tkV 8 ?_
            refine tkV 9 ?_
            refine tkV 10 ?_
            have hwd : IntKind.i64.wrap ((d : Nat) : Int) = (d : Int) := by rw [IntKind.wrap_i64]; omega
            refine tkB 11 (.int .i64 (d : Nat)) ?_
            clear hwd
            refine aR [12] ?_
            refine AllReadyH.cons (o := _) rfl (fun K hK => ?_) AllReadyH.nil
            go_simp
            go_at_call 29
            refine (A1.out _).mono ?_
            rintro e w6 ⟨rfl, q6⟩
            have Q6 := Lib.hid (Q5.out.trans q6)
            clear q6 hHeld
            refine hK.out _ _ (KS.out _ Q6.out) (fun hHeld => ?_)
            clear hK K
            refine pg ?_
            refine tkB 13 (.bool RB) ?_
            refine tkV 14 ?_
            refine tkV 15 ?_
            refine tkV 16 ?_
            refine wpAnyH_done (by kernel_rfl) ?_ _
            go_wp2_with fail
            go_ret
            exact ⟨by rw [HV3.out]; rfl, Q4.out.trans Q6.out⟩
          · have HV3 : Hid (tailK l = false) := Lib.hid (by rw [HV2.out]; simp [hG])
            have hG1 : ¬ (j : Int) < (f : Int) := by omega
            refine (E1.out _).mono ?_
            rintro e w3 ⟨rfl, q3⟩
            go_wp2_with fail
            obtain ⟨g, hg⟩ : ∃ g, g = w3.heap.size := ⟨_, rfl⟩
            have bx := Bx.new w3 55 #[.int .u8 (y0 : Nat), .int .u8 (y1 : Nat), .int .u8 (y2 : Nat), .int .u8 (y3 : Nat)]
            rw [← hg] at bx
            have q4 := q3.alloc (.cells #[.int .u8 (y0 : Nat), .int .u8 (y1 : Nat), .int .u8 (y2 : Nat), .int .u8 (y3 : Nat)] 55)
            rw [← hg]
            obtain ⟨W4, hW4⟩ : ∃ W4, W4 = w3.alloc (.cells #[.int .u8 (y0 : Nat), .int .u8 (y1 : Nat), .int .u8 (y2 : Nat), .int .u8 (y3 : Nat)] 55) := ⟨_, rfl⟩
            rw [← hW4] at bx q4 ⊢
            have KS : Hid (∀ x, Q W4 x → (fun (W : World) => W.cell? ⟨g, 0, none⟩ = some (.int .u8 (y0 : Nat)) ∧ W.cell? ⟨g, 1, none⟩ = some (.int .u8 (y1 : Nat)) ∧ W.cell? ⟨g, 2, none⟩ = some (.int .u8 (y2 : Nat)) ∧ W.cell? ⟨g, 3, none⟩ = some (.int .u8 (y3 : Nat))) x) := Lib.hid (fun x q => ⟨(bx.on q).cell 0, (bx.on q).cell 1, (bx.on q).cell 2, (bx.on q).cell 3⟩)
            have Q4 := Lib.hid (HQ.out.trans q4)
            have qd := (Q.refl W4).drew
            clear hg hW4 q3 q4 HQ bx
            refine wp_region_held_drew (S := (fun (W : World) => W.cell? ⟨g, 0, none⟩ = some (.int .u8 (y0 : Nat)) ∧ W.cell? ⟨g, 1, none⟩ = some (.int .u8 (y1 : Nat)) ∧ W.cell? ⟨g, 2, none⟩ = some (.int .u8 (y2 : Nat)) ∧ W.cell? ⟨g, 3, none⟩ = some (.int .u8 (y3 : Nat)))) (by kernel_rfl) (KS.out _ qd) (fun hHeld => ?_)
            obtain ⟨wd, hwd⟩ : ∃ z, z = W4.drew := ⟨_, rfl⟩
            rw [← hwd] at qd hHeld ⊢
            clear hwd
            refine tkV 0 ?_
            refine aR [1] ?_
            refine AllReadyH.cons (o := _) rfl (fun K hK => ?_) AllReadyH.nil
            go_simp
            go_at_call 33
            refine (T1.out _).mono ?_
            rintro e w5 ⟨rfl, q5⟩
            have Q5 := Lib.hid (qd.trans q5)
            clear q5 hHeld
            refine hK.out _ _ (KS.out _ Q5.out) (fun hHeld => ?_)
            clear hK K
            refine pg ?_
            refine tkV 2 ?_
            refine tkV 3 ?_
            refine tkV 4 ?_
            refine tkB 5 (.bool false) ?_
            refine tkV 6 ?_
            refine tkU 7 ?_
            refine tkU 8 ?_
            refine tkU 9 ?_
            refine tkU 10 ?_
            refine tkU 11 ?_
            refine tkU 12 ?_
            refine tkU 13 ?_
            refine tkV 14 ?_
            refine tkV 15 ?_
            refine tkV 16 ?_
            refine wpAnyH_done (by kernel_rfl) ?_ _
            go_wp2_with fail
            go_ret
            exact ⟨by rw [HV3.out]; rfl, Q4.out.trans Q5.out⟩
end Go.Proofs.Ytpcanlafbcdmcaa
