/-
  Contract of the document's Lay.
-/
import Derived.Test.YtpcanlafbcdmcaaKLawA
namespace Go.Proofs.Ytpcanlafbcdmcaa
set_option maxRecDepth 100000
open Go.ChangeShapes Go.WideShapes Go.ChangeAt Go.RowKit
set_option linter.unusedVariables false
set_option linter.unusedSimpArgs false
set_option maxRecDepth 100000

theorem padK_in (l : List UInt8) (q : Nat) (h : q < 60) (h2 : q < l.length) : (padK l)[q]? = l[q]? := by
  unfold padK
  rw [List.getElem?_append_left (by rw [List.length_take]; omega), List.getElem?_take_of_lt h]
theorem padK_out (l : List UInt8) (q : Nat) (h : q < 60) (h2 : ¬ q < l.length) : (padK l)[q]? = some 0 := by
  unfold padK
  rw [List.getElem?_append_right (by rw [List.length_take]; omega), List.getElem?_replicate_of_lt (by rw [List.length_take]; omega)]
theorem pad_in (T : ByteArray) (m q : Nat) (hq : q < 60) (h : m + q < T.size) : mk ((padK ((bl T).drop m)).take q) ++ T.extract (m + q) (m + q + 1) = mk ((padK ((bl T).drop m)).take (q + 1)) := by
  apply bl_inj
  have h2 : m + q < (bl T).length := by rw [bl_length]; exact h
  rw [bl_append, bl_mk, bl_mk, List.take_add_one, padK_in _ _ hq (by rw [List.length_drop]; omega), List.getElem?_drop, bl_extract, List.drop_eq_getElem_cons h2, List.getElem?_eq_getElem h2, show m + q + 1 - (m + q) = 1 by omega]
  rfl
theorem pad_out (T : ByteArray) (m q : Nat) (hq : q < 60) (h : ¬ m + q < T.size) : mk ((padK ((bl T).drop m)).take q) ++ (⟨#[0]⟩ : ByteArray) = mk ((padK ((bl T).drop m)).take (q + 1)) := by
  apply bl_inj
  rw [bl_append, bl_mk, bl_mk, List.take_add_one, padK_out _ _ hq (by rw [List.length_drop, bl_length]; omega)]
  rfl
theorem pad_sz (T : ByteArray) (m q : Nat) : (mk ((padK ((bl T).drop m)).take q)).size ≤ 60 := by rw [mk_size, List.length_take, padK_length]; omega
theorem layK_take (s : ByteArray) (i : Nat) (h : i < manyK s.size) : (layK s).take (i + 1) = (layK s).take i ++ [mk (blkK (bl s) i)] := by
  rw [List.take_succ_eq_append_getElem (by rw [layK_length]; exact h), layK_get]
theorem blk_cat (s : ByteArray) (i f : Nat) (hf : f = manyK s.size - 1 - i) : mk ((padK ((heldK (bl s)).drop (60 * i))).take 60) ++ mk (footK i f) = mk (blkK (bl s) i) := by
  apply bl_inj
  rw [bl_append, bl_mk, bl_mk, bl_mk, blkK, bl_length, hf, List.take_of_length_le (by rw [padK_length]; exact Nat.le_refl _)]
set_option maxHeartbeats 8000000 in
theorem rlay_any (s : ByteArray) (w : World) (hs : s.size ≤ 12000) : Calls Try.prog 15 #[.string s] w fun e w' => ∃ A c, e = .returned (.slice A (layK s).length c) ∧ OwnT w.heap.size w' (.slice A (layK s).length c) (layK s) ∧ Q w w' := by
  obtain ⟨PO, hPO⟩ : ∃ PO, PO = fun (e : Ending) (w' : World) => ∃ A c, e = .returned (.slice A (layK s).length c) ∧ OwnT w.heap.size w' (.slice A (layK s).length c) (layK s) ∧ Q w w' := ⟨_, rfl⟩
  rw [← hPO]
  have HPO : Hid (∀ A n c w', OwnT w.heap.size w' (.slice A n c) (layK s) → Q w w' → PO (.returned (.slice A n c)) w') := Lib.hid (by
    intro A n c w' h1 h2
    rw [hPO]
    obtain ⟨A', c', e, -⟩ := h1.form
    injection e with e1 e2 e3
    subst e2
    exact ⟨A, c, rfl, h1, h2⟩)
  clear hPO
  have hpos := manyK_pos hs
  have hmany := manyK_le s.size
  have hroom := manyK_room hs
  have hlow := manyK_low hs
  have M := Lib.hid (fun w => rmany_any (s.size : Int) w (by omega))
  rw [manyI_nat] at M
  have HTK := Lib.hid (fun i h => layK_take s i h)
  have HLL := Lib.hid (layK_length s)
  have HBC := Lib.hid (fun i f h => blk_cat s i f h)
  obtain ⟨K, hK⟩ : ∃ K, K = manyK s.size := ⟨_, rfl⟩
  rw [← hK] at M hpos hmany hroom hlow HTK HLL HBC
  have hcells : Hid ((Lib.byteCells [(s.size % 256).toUInt8, (s.size / 256 % 256).toUInt8]).toArray = #[.int .u8 ((s.size : Int) % 256), .int .u8 ((s.size : Int) / 256)]) := Lib.hid (by
    rw [Lib.byteCells, List.map_cons, List.map_cons, List.map_nil, toU8, toU8, int_mod, int_div _ (by omega)])
  have hcv := conv_bx (l := [(s.size % 256).toUInt8, (s.size / 256 % 256).toUInt8]) (n := 2) (g := w.heap.size) (Bx.new w 5 _) rfl
  rw [hcells.out] at hcv
  have qa := (Q.refl w).alloc (.cells #[.int .u8 ((s.size : Int) % 256), .int .u8 ((s.size : Int) / 256)] 5)
  obtain ⟨HD, hHD⟩ : ∃ HD, HD = mk [(s.size % 256).toUInt8, (s.size / 256 % 256).toUInt8] := ⟨_, rfl⟩
  rw [← hHD] at hcv
  obtain ⟨T, hT⟩ : ∃ T, T = mk (heldK (bl s)) := ⟨_, rfl⟩
  have hcat : HD ++ s = T := by rw [hHD, hT]; apply bl_inj; rw [bl_append, bl_mk, bl_mk, heldK, bl_length]; rfl
  have hTs : T.size = s.size + 2 := by rw [hT, mk_size, heldK_length, bl_length]
  have HT : Hid (bl T = heldK (bl s)) := Lib.hid (by rw [hT, bl_mk])
  have QA := Lib.hid qa
  have HT2 := Lib.hid hTs
  have hHs : HD.size = 2 := by rw [hHD]; rfl
  clear hcells hHD hT hK qa hTs
  go_enter Try.func15, Try.ntmps15
  go_wp2_with fail
  refine (M.out _).mono ?_
  rintro e w1 ⟨rfl, d1⟩
  have Q1 := Lib.hid (QA.out.trans d1.q)
  clear QA hcv hcat hHs d1
  go_wp2_with fail
  go_loopw [5, 6] (fun O I wr => ∃ i : Nat, i ≤ K ∧ I = .int .i64 i ∧ Hid (OwnT w.heap.size wr O ((layK s).take i)) ∧ Hid (Q w wr)) (fun _ I _ => K - (intOf I).toNat)
  case atStart => exact ⟨0, Nat.zero_le _, rfl, Lib.hid (OwnT.nil _ _), Q1⟩
  case round =>
    obtain ⟨i, hi, rfl, HO, HQ⟩ := hrel
    obtain ⟨A2, c2, rfl, hc2⟩ := HO.out.form
    have hl2 : ((layK s).take i).length = i := by rw [List.length_take, HLL.out]; omega
    rw [hl2] at HO hc2 ⊢
    obtain ⟨wo, hwo⟩ : ∃ x, x = wr := ⟨_, rfl⟩
    subst hwo
    have HL2 := Lib.hid hl2
    clear hl2
    by_cases hlt : i < K
    · have hkt : (i : Int) < (K : Int) := by omega
      obtain ⟨m, hm⟩ : ∃ m, m = 60 * i := ⟨_, rfl⟩
      have hmi : (60 : Int) * (i : Int) = (m : Int) := by omega
      have hm9 : m ≤ 12100 := by omega
      have HIN := Lib.hid (fun q hq h => pad_in T m q hq h)
      have HOUT := Lib.hid (fun q hq h => pad_out T m q hq h)
      have HPS := Lib.hid (pad_sz T m)
      have HT9 : Hid (T.size ≤ 12002) := Lib.hid (by have := HT2.out; omega)
      have HM := Lib.hid hm
      clear hm
      go_wp2_with fail
      go_loopw [7, 8] (fun B J wr => ∃ q : Nat, q ≤ 60 ∧ J = .int .i64 (m + q : Nat) ∧ B = .string (mk ((padK ((bl T).drop m)).take q)) ∧ Hid (Q wo wr)) (fun _ J _ => m + 60 - (intOf J).toNat)
      case atStart => exact ⟨0, Nat.zero_le _, rfl, rfl, Lib.hid (Q.refl _)⟩
      case round =>
        obtain ⟨q, hq, rfl, rfl, HQ2⟩ := hrel
        have hbs := HPS.out q
        have ht9 := HT9.out
        by_cases hq6 : q < 60
        · obtain ⟨j, hj⟩ : ∃ j, j = m + q := ⟨_, rfl⟩
          have hj6 : (j : Int) < (m : Int) + 60 := by omega
          have hjb : j ≤ 20000 := by omega
          by_cases hjT : j < T.size
          · have h1 := HIN.out q hq6 (by rw [← hj]; exact hjT)
            rw [← hj] at h1 ⊢
            have hjT' : (j : Int) < (T.size : Int) := by omega
            have hx : (T.extract j (j + 1)).size = 1 := by rw [size_cut _ (by omega)]; omega
            obtain ⟨B1, hB1⟩ : ∃ B1, B1 = mk ((padK ((bl T).drop m)).take q) := ⟨_, rfl⟩
            rw [← hB1] at h1 hbs ⊢
            have hsum : B1.size + (T.extract j (j + 1)).size ≤ 100000 := by omega
            have hjT2 : (j : Int) + 1 ≤ (T.size : Int) := by omega
            have hjT3 : j + 1 ≤ T.size := by omega
            have H1 := Lib.hid h1
            have HJ := Lib.hid hj
            clear h1 hB1 hj
            go_wp2_with fail
            go_roundw
            case rel => exact ⟨q + 1, by omega, by rw [HJ.out]; go_num, by rw [H1.out], HQ2⟩
            case measure => simp [intOf]; omega
          · have h1 := HOUT.out q hq6 (by rw [← hj]; exact hjT)
            rw [← hj]
            have hjT' : ¬ (j : Int) < (T.size : Int) := by omega
            obtain ⟨B1, hB1⟩ : ∃ B1, B1 = mk ((padK ((bl T).drop m)).take q) := ⟨_, rfl⟩
            rw [← hB1] at h1 hbs ⊢
            have hx : (⟨#[0]⟩ : ByteArray).size = 1 := rfl
            have hsum : B1.size + 1 ≤ 100000 := by omega
            have H1 := Lib.hid h1
            have HJ := Lib.hid hj
            clear h1 hB1 hj
            go_wp2_with fail
            go_roundw
            case rel => exact ⟨q + 1, by omega, by rw [HJ.out]; go_num, by rw [H1.out], HQ2⟩
            case measure => simp [intOf]; omega
        · obtain rfl : q = 60 := by omega
          obtain ⟨j, hj⟩ : ∃ j, j = m + 60 := ⟨_, rfl⟩
          have hj6 : ¬ (j : Int) < (m : Int) + 60 := by omega
          have hjb : j ≤ 20000 := by omega
          obtain ⟨f, hf⟩ : ∃ f, f = K - 1 - i := ⟨_, rfl⟩
          have hBC := HBC.out i f hf
          have hTK := Lib.hid (HTK.out i hlt)
          have hx0 : (bl T).drop m = (heldK (bl s)).drop (60 * i) := by rw [HT.out, HM.out]
          obtain ⟨B1, hB1⟩ : ∃ B1, B1 = mk ((padK ((bl T).drop m)).take 60) := ⟨_, rfl⟩
          rw [← hx0, ← hB1] at hBC
          rw [← hB1] at hbs ⊢
          rw [← hj]
          have F := Lib.hid fun w => foot_any i f w (by omega)
          obtain ⟨FT, hFT⟩ : ∃ FT, FT = mk (footK i f) := ⟨_, rfl⟩
          have hFs : FT.size = 4 := by rw [hFT]; rfl
          rw [← hFT] at F hBC
          have hsum : B1.size + FT.size ≤ 100000 := by omega
          obtain ⟨X, hX⟩ : ∃ X, X = mk (blkK (bl s) i) := ⟨_, rfl⟩
          rw [← hX] at hBC hTK
          have e1 : (K : Int) - 1 - (i : Int) = (f : Int) := by omega
          have e2 : ((i : Int) == 0) = decide (i = 0) := by
            by_cases h : i = 0
            · subst h; rfl
            · simp [h]
          have HBCC := hBC
          clear hj hB1 hFT hX hx0 hf hBC
          go_wp2_with fail
          refine (F.out _).mono ?_
          rintro e w5 ⟨rfl, q5⟩
          have Q5 := Lib.hid (HQ2.out.trans q5)
          have oa := Lib.hid ((HO.out.on Q5.out).on ((Q.refl w5).alloc (.cells #[.string X] 9)))
          have CX : Hid ((w5.alloc (.cells #[.string X] 9)).cell? ⟨w5.heap.size, 0, none⟩ = some (.string X)) := Lib.hid ((Bx.new w5 9 #[.string X]).cell 0)
          have HWS : Hid (w.heap.size ≤ (w5.alloc (.cells #[.string X] 9)).heap.size) := Lib.hid (by rw [World.size_alloc]; have := HQ.out.size; have := Q5.out.size; omega)
          have HL4 : Hid (((layK s).take i).length ≤ 4000000) := Lib.hid (by rw [HL2.out]; omega)
          go_wp2_with (at_builtin; refine wpList_snoc_txt _ rfl _ _ rfl w.heap.size w5.heap.size _ _ X rfl rfl CX.out oa.out HWS.out HL4.out ?_; intro v6 w6 ho6 hg6)
          obtain ⟨A6, c6, rfl, -⟩ := ho6.out.form
          go_roundw
          case rel => exact ⟨i + 1, by omega, by go_num, Lib.hid (by rw [hTK.out]; exact ho6.out), Lib.hid (OwnT.below ((HQ.out.trans Q5.out).trans ((Q.refl w5).alloc _)) HWS.out oa.out hg6.out)⟩
          case measure => simp [intOf]; omega
    · obtain rfl : i = K := by omega
      have hh := HO.out
      rw [List.take_of_length_le (by rw [HLL.out]; exact Nat.le_refl _)] at hh
      have HH := Lib.hid hh
      clear hh
      go_wp2_with fail
      exact HPO.out _ _ _ _ HH.out HQ.out
end Go.Proofs.Ytpcanlafbcdmcaa
