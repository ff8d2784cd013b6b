/-
  Contract of the document's Diff.
-/
import Derived.Test.YtbilnomafloopaaGreatIPlain3
import Derived.Deep.DeepCutAuto
namespace Go.Proofs.YtbilnomafloopaaGreat
set_option maxRecDepth 100000
open Go.ChangeShapes Go.WideShapes Go.ChangeAt Go.RowKit
set_option linter.unusedVariables false
set_option linter.unusedSimpArgs false

theorem foldI_take (o l : List Itm) (i : Nat) (h : i < l.length) : (l.take (i + 1)).foldl (inG Itm.n) o = inG Itm.n ((l.take i).foldl (inG Itm.n) o) l[i] := by
  rw [List.take_succ_eq_append_getElem h, List.foldl_append]; rfl
theorem cells_chg1 (w : World) (x : Chg) (t : TypeId) : ∀ j u, (hcl x)[j]? = some u → (w.alloc (.cells (hcl x).toArray t)).cell? ((⟨w.heap.size, 0, none⟩ : Addr).add j) = some u := cells_onechg w x t
theorem lookI_dec {l : List Itm} {k s : ByteArray} {b : Bool} (h : LastI l k s b) : (b = true → lookI (ofI l) k = some s) ∧ (b = false → lookI (ofI l) k = none) := by
  have e := lookI_last h
  exact ⟨fun hb => by rw [e, if_pos hb], fun hb => by rw [e, if_neg (by rw [hb]; decide)]⟩
theorem chg_ff {A B : List Itm} {k : ByteArray} (h1 : lookI A k = none) (h2 : lookI B k = none) : chgOf A B k = [] := by unfold chgOf; rw [h1, h2]
theorem chg_ft {A B : List Itm} {k s : ByteArray} (h1 : lookI A k = none) (h2 : lookI B k = some s) : chgOf A B k = [⟨k, s, false⟩] := by unfold chgOf; rw [h1, h2]
theorem chg_tf {A B : List Itm} {k s : ByteArray} (h1 : lookI A k = some s) (h2 : lookI B k = none) : chgOf A B k = [⟨k, ⟨#[]⟩, true⟩] := by unfold chgOf; rw [h1, h2]
theorem chg_tt {A B : List Itm} {k s t : ByteArray} (h1 : lookI A k = some t) (h2 : lookI B k = some s) (h : t ≠ s) : chgOf A B k = [⟨k, s, false⟩] := by unfold chgOf; rw [h1, h2]; simp only [if_neg h]
theorem chg_te {A B : List Itm} {k t : ByteArray} (h1 : lookI A k = some t) (h2 : lookI B k = some t) : chgOf A B k = [] := by unfold chgOf; rw [h1, h2]; simp
set_option maxHeartbeats 16000000 in
theorem rdiff_any (a b : List Itm) (va vb : Value) (w : World) (hl : a.length ≤ 60) (hlb : b.length ≤ 60) (ha : Itms w w.heap.size va a) (hb : Itms w w.heap.size vb b) :
    Calls Tryz.prog 26 #[va, vb] w fun e w' => ∃ v', e = .returned v' ∧ ∃ c, OwnH w.heap.size w' v' c ∧ DiffIs (ofI a) (ofI b) c ∧ Q w w' := by
  have HIA := Lib.hid ha
  have HIB := Lib.hid hb
  obtain ⟨A, c1, rfl, -, -, hok, hcells⟩ := ha
  obtain ⟨B, c2, rfl, -, -, hok2, hcells2⟩ := hb
  have HC := Lib.hid hcells
  have HD := Lib.hid hcells2
  have HS := Lib.hid hok
  have HS2 := Lib.hid hok2
  have HI0 : Hid (∀ i, ∀ x ∈ ofI (a.take i), okI x) := Lib.hid (fun i x hx => hok x (List.mem_of_mem_take (ofI_sub hx)))
  have HI1 : Hid (∀ i, ∀ x ∈ (b.take i).foldl (inG Itm.n) (ofI a), okI x) := Lib.hid (fun i x hx => by
    rcases foldI_sub hx with h | h
    · exact hok x (ofI_sub h)
    · exact hok2 x (List.mem_of_mem_take h))
  have HLN : Hid (∀ i, (ofI (a.take i)).length ≤ 60) := Lib.hid (fun i => by have := ofI_len (a.take i); rw [List.length_take] at this; omega)
  have HLM : Hid (∀ i, ((b.take i).foldl (inG Itm.n) (ofI a)).length ≤ 120) := Lib.hid (fun i => by have := foldI_len (b.take i) (ofI a); have := ofI_len a; rw [List.length_take] at *; omega)
  clear hcells hcells2 hok hok2
  go_enter Tryz.func26, Tryz.ntmps26
  go_wp2_with fail
  go_loopw [5, 6] (fun O I wr => ∃ i : Nat, i ≤ a.length ∧ I = .int .i64 i ∧ OwnI w.heap.size wr O (ofI (a.take i)) ∧ Q w wr) (fun _ I _ => a.length - (intOf I).toNat)
  case atStart => exact ⟨0, Nat.zero_le _, rfl, OwnI.nil _ _, Q.refl _⟩
  case round =>
    obtain ⟨i, hil, rfl, hown, hbel⟩ := hrel
    have hz := hbel.size
    by_cases hlt : i < a.length
    · obtain ⟨p, hAa, hp, hat⟩ := HC.out i hlt
      subst hAa
      obtain ⟨c0, c1⟩ := hat.keep (by rw [add_block]; exact hp) fun p hp => hbel.cell hp
      have HW := Lib.hid (ofI_take a i hlt)
      have hy0 := HS.out _ (List.getElem_mem hlt)
      obtain ⟨y, hy⟩ : ∃ y, y = a[i] := ⟨_, rfl⟩
      rw [← hy] at c0 c1 HW hy0
      clear hy hat
      have hilt : (i : Int) < (a.length : Int) := by omega
      have hrd := OwnI.read hown (HI0.out i)
      have hln := HLN.out i
      have C := Lib.hid (rin_any _ y _ wr (by omega) hy0 hrd)
      rw [itm] at C
      clear hrd hy0
      go_wp2_with fail
      refine (C.out).mono ?_
      rintro e w1 ⟨v1, rfl, o1, q1⟩
      rw [← HW.out] at o1
      go_wp2_with fail
      go_roundw
      case rel => exact ⟨i + 1, by omega, by go_num, OwnI.low o1 hz, hbel.trans q1⟩
      case measure => simp [intOf]; omega
    · have h2 : ¬ (i : Int) < (a.length : Int) := by omega
      rw [List.take_of_length_le (by omega)] at hown
      have hown0 : OwnI w.heap.size wr u5 ((b.take 0).foldl (inG Itm.n) (ofI a)) := hown
      clear hown
      go_wp2_with fail
      go_loopw [5, 7] (fun O I wr => ∃ i : Nat, i ≤ b.length ∧ I = .int .i64 i ∧ OwnI w.heap.size wr O ((b.take i).foldl (inG Itm.n) (ofI a)) ∧ Q w wr) (fun _ I _ => b.length - (intOf I).toNat)
      case atStart => exact ⟨0, Nat.zero_le _, rfl, hown0, hbel⟩
      case round =>
        clear hown0 hbel hz h2 hlt hil
        obtain ⟨i, hil, rfl, hown, hbel⟩ := hrel
        have hz := hbel.size
        by_cases hlt : i < b.length
        · obtain ⟨p, hAa, hp, hat⟩ := HD.out i hlt
          subst hAa
          obtain ⟨c0, c1⟩ := hat.keep (by rw [add_block]; exact hp) fun p hp => hbel.cell hp
          have HW := Lib.hid (foldI_take (ofI a) b i hlt)
          have hy0 := HS2.out _ (List.getElem_mem hlt)
          obtain ⟨y, hy⟩ : ∃ y, y = b[i] := ⟨_, rfl⟩
          rw [← hy] at c0 c1 HW hy0
          clear hy hat
          have hilt : (i : Int) < (b.length : Int) := by omega
          have hrd := OwnI.read hown (HI1.out i)
          have hln := HLM.out i
          have C := Lib.hid (rin_any _ y _ wr (by omega) hy0 hrd)
          rw [itm] at C
          clear hrd hy0
          go_wp2_with fail
          refine (C.out).mono ?_
          rintro e w1 ⟨v1, rfl, o1, q1⟩
          rw [← HW.out] at o1
          go_wp2_with fail
          go_roundw
          case rel => exact ⟨i + 1, by omega, by go_num, OwnI.low o1 hz, hbel.trans q1⟩
          case measure => simp [intOf]; omega
        · obtain ⟨wo, hwo⟩ : ∃ x, x = wr := ⟨_, rfl⟩
          subst hwo
          have h2 : ¬ (i : Int) < (b.length : Int) := by omega
          rw [List.take_of_length_le (by omega)] at hown
          have HRD := Lib.hid (rdiff_is a b)
          have hln := HLM.out b.length
          have hok3 := HI1.out b.length
          rw [List.take_of_length_le (Nat.le_refl _)] at hln hok3
          obtain ⟨G, hG⟩ : ∃ G, G = b.foldl (inG Itm.n) (ofI a) := ⟨_, rfl⟩
          rw [← hG] at hown HRD hln hok3
          have hrd := OwnI.read hown hok3
          obtain ⟨A', c', rfl, -, -, -, hcG⟩ := hrd
          have HG := Lib.hid hcG
          have HOK := Lib.hid hok3
          have HIA2 := Lib.hid (HIA.out.on hbel)
          have HIB2 := Lib.hid (HIB.out.on hbel)
          have HQB := Lib.hid hbel
          clear hcG hown hG hbel HIA HIB HI0 HI1 HLN HLM hok3
          go_wp2_with fail
          go_loopw [8, 9] (fun O I wr2 => ∃ j : Nat, j ≤ G.length ∧ I = .int .i64 j ∧ OwnH wo.heap.size wr2 O (diffP (ofI a) (ofI b) (G.take j)) ∧ Q wo wr2) (fun _ I _ => G.length - (intOf I).toNat)
          case atStart => exact ⟨0, Nat.zero_le _, rfl, OwnH.nil _ _, Q.refl _⟩
          case round =>
            obtain ⟨j, hjl, rfl, hown, q⟩ := hrel
            by_cases hjt : j < G.length
            · obtain ⟨p, hAG, hp, hatG⟩ := HG.out j hjt
              subst hAG
              obtain ⟨d0, -⟩ := hatG.keep (by rw [add_block]; exact hp) fun p hp => q.cell hp
              have HF := diffP_take (ofI a) (ofI b) G j hjt
              have hlen : (diffP (ofI a) (ofI b) (G.take j)).length ≤ 120 := by have := diffP_len (ofI a) (ofI b) (G.take j); rw [List.length_take] at this; omega
              obtain ⟨y, hy⟩ : ∃ y, y = G[j] := ⟨_, rfl⟩
              rw [← hy] at d0 HF
              clear hy hatG
              have hjlt : (j : Int) < (G.length : Int) := by omega
              obtain ⟨s1, b1, hl1⟩ := lastI_ex a y.n
              obtain ⟨s2, b2, hl2⟩ := lastI_ex b y.n
              have C1 := Lib.hid (fun x (q2 : Q wo x) => rlast_any a y.n s1 b1 _ x hl1 (by omega) (HIA2.out.on q2))
              have C2 := Lib.hid (fun x (q2 : Q wo x) => rlast_any b y.n s2 b2 _ x hl2 (by omega) (HIB2.out.on q2))
              have L1 := lookI_dec hl1
              have L2 := lookI_dec hl2
              clear hl1 hl2
              cases b1 <;> cases b2
              · rw [chg_ff (L1.2 rfl) (L2.2 rfl), List.append_nil] at HF
                have HW := Lib.hid HF
                clear HF L1 L2
                go_wp2_with fail
                refine (C1.out _ q).mono ?_
                rintro e w1 ⟨rfl, d1⟩
                have q1 := q.trans (D.q d1)
                have hown := OwnH.on hown (D.q d1)
                clear d1 q
                go_wp2_with fail
                refine (C2.out _ q1).mono ?_
                rintro e w2 ⟨rfl, d2⟩
                have q2 := q1.trans (D.q d2)
                have hown := OwnH.on hown (D.q d2)
                have hz := q2.size
                clear d2 q1 C1 C2 d0
                go_wp2_with fail
                go_roundw
                case rel => exact ⟨j + 1, by omega, by go_num, by rw [HW.out]; exact hown, q2⟩
                case measure => simp [intOf]; omega
              · rw [chg_ft (L1.2 rfl) (L2.1 rfl)] at HF
                have HW := Lib.hid HF
                clear HF L1 L2
                go_wp2_with fail
                refine (C1.out _ q).mono ?_
                rintro e w1 ⟨rfl, d1⟩
                have q1 := q.trans (D.q d1)
                have hown := OwnH.on hown (D.q d1)
                clear d1 q
                go_wp2_with fail
                refine (C2.out _ q1).mono ?_
                rintro e w2 ⟨rfl, d2⟩
                have q2 := q1.trans (D.q d2)
                have hown := OwnH.on hown (D.q d2)
                have hz := q2.size
                clear d2 q1 C1 C2 d0
                go_wp2_with (at_builtin; refine wpList_snoc_chg _ rfl _ _ 40 72 Tryz.underlying40 rfl wo.heap.size w2.heap.size _ (diffP (ofI a) (ofI b) (G.take j)) ⟨y.n, s2, false⟩ rfl rfl (cells_chg1 w2 ⟨y.n, s2, false⟩ 72) (World.ownsRow.alloc hown _) ?hb ?hl ?_; (case hb => simp; omega); (case hl => omega); intro v1 w3 h1 h2; have b1 := OwnH.grown (World.ownsRow.alloc hown _) (Below.alloc q2 hz _) (by simp; omega) h2; rw [← HW.out] at h1; clear h2)
                go_roundw
                case rel => exact ⟨j + 1, by omega, by go_num, h1, b1⟩
                case measure => simp [intOf]; omega
              · rw [chg_tf (L1.1 rfl) (L2.2 rfl)] at HF
                have HW := Lib.hid HF
                clear HF L1 L2
                go_wp2_with fail
                refine (C1.out _ q).mono ?_
                rintro e w1 ⟨rfl, d1⟩
                have q1 := q.trans (D.q d1)
                have hown := OwnH.on hown (D.q d1)
                clear d1 q
                go_wp2_with fail
                refine (C2.out _ q1).mono ?_
                rintro e w2 ⟨rfl, d2⟩
                have q2 := q1.trans (D.q d2)
                have hown := OwnH.on hown (D.q d2)
                have hz := q2.size
                clear d2 q1 C1 C2 d0
                go_wp2_with (at_builtin; refine wpList_snoc_chg _ rfl _ _ 40 72 Tryz.underlying40 rfl wo.heap.size w2.heap.size _ (diffP (ofI a) (ofI b) (G.take j)) ⟨y.n, ⟨#[]⟩, true⟩ rfl rfl (cells_chg1 w2 ⟨y.n, ⟨#[]⟩, true⟩ 72) (World.ownsRow.alloc hown _) ?hb ?hl ?_; (case hb => simp; omega); (case hl => omega); intro v1 w3 h1 h2; have b1 := OwnH.grown (World.ownsRow.alloc hown _) (Below.alloc q2 hz _) (by simp; omega) h2; rw [← HW.out] at h1; clear h2)
                go_roundw
                case rel => exact ⟨j + 1, by omega, by go_num, h1, b1⟩
                case measure => simp [intOf]; omega
              · by_cases hss : s1 = s2
                · subst hss
                  rw [chg_te (L1.1 rfl) (L2.1 rfl), List.append_nil] at HF
                  have HW := Lib.hid HF
                  clear HF L1 L2
                  go_wp2_with fail
                  refine (C1.out _ q).mono ?_
                  rintro e w1 ⟨rfl, d1⟩
                  have q1 := q.trans (D.q d1)
                  have hown := OwnH.on hown (D.q d1)
                  clear d1 q
                  go_wp2_with fail
                  refine (C2.out _ q1).mono ?_
                  rintro e w2 ⟨rfl, d2⟩
                  have q2 := q1.trans (D.q d2)
                  have hown := OwnH.on hown (D.q d2)
                  have hz := q2.size
                  clear d2 q1 C1 C2 d0
                  go_wp2_with fail
                  go_roundw
                  case rel => exact ⟨j + 1, by omega, by go_num, by rw [HW.out]; exact hown, q2⟩
                  case measure => simp [intOf]; omega
                · rw [chg_tt (L1.1 rfl) (L2.1 rfl) hss] at HF
                  have HW := Lib.hid HF
                  have he : (s1.toList == s2.toList) = false := key_ne hss
                  clear HF L1 L2 hss
                  go_wp2_with fail
                  refine (C1.out _ q).mono ?_
                  rintro e w1 ⟨rfl, d1⟩
                  have q1 := q.trans (D.q d1)
                  have hown := OwnH.on hown (D.q d1)
                  clear d1 q
                  go_wp2_with fail
                  refine (C2.out _ q1).mono ?_
                  rintro e w2 ⟨rfl, d2⟩
                  have q2 := q1.trans (D.q d2)
                  have hown := OwnH.on hown (D.q d2)
                  have hz := q2.size
                  clear d2 q1 C1 C2 d0
                  go_wp2_with (at_builtin; refine wpList_snoc_chg _ rfl _ _ 40 72 Tryz.underlying40 rfl wo.heap.size w2.heap.size _ (diffP (ofI a) (ofI b) (G.take j)) ⟨y.n, s2, false⟩ rfl rfl (cells_chg1 w2 ⟨y.n, s2, false⟩ 72) (World.ownsRow.alloc hown _) ?hb ?hl ?_; (case hb => simp; omega); (case hl => omega); intro v1 w3 h1 h2; have b1 := OwnH.grown (World.ownsRow.alloc hown _) (Below.alloc q2 hz _) (by simp; omega) h2; rw [← HW.out] at h1; clear h2)
                  go_roundw
                  case rel => exact ⟨j + 1, by omega, by go_num, h1, b1⟩
                  case measure => simp [intOf]; omega
            · have h3 : ¬ (j : Int) < (G.length : Int) := by omega
              rw [List.take_of_length_le (by omega)] at hown
              go_wp2
              go_ret
              exact ⟨_, rfl, _, OwnH.low hown HQB.out.size, HRD.out, HQB.out.trans q⟩
end Go.Proofs.YtbilnomafloopaaGreat
