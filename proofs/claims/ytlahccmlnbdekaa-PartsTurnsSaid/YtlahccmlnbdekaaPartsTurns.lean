/-
  Proved: whatever parts PartsTurns is called with, it returns true and leaves what it was given as it was. No condition.
-/
import Derived.Deep.DeepCutAuto
import Derived.Deep.RegionHeld3
import Derived.Test.YtlahccmlnbdekaaUFewL
import Derived.Test.YtlahccmlnbdekaaUAwk
import Derived.Test.YtlahccmlnbdekaaUTMap
namespace Go.Proofs.Ytlahccmlnbdekaa.partsTurns
open Go.ChangeShapes Go.WideShapes Go.ChangeAt Go.RowKit
open Go.ChangeMaps (open_string shut_string)
set_option linter.unusedVariables false
set_option linter.unusedSimpArgs false

theorem wf9 {k : Int} (h : 1 ≤ k ∧ k ≤ 9) : wfI k := by
  unfold wfI; simp [Lit.wf, IntKind.min, IntKind.max, IntKind.signed, IntKind.bits]; omega
set_option maxHeartbeats 8000000 in
set_option maxRecDepth 100000 in
theorem walk (l : List Prt) (v : Value) (w : World) (t0 : Prts w w.heap.size v l) (z0 : l.length ≤ maxLen) :
    Calls Try.prog 6 #[v] w fun e w' => e = .returned (.bool true) ∧ Q w w' := by
  have BG : Hid (∀ d, Calls Try.prog 23 #[.slice none 0 0, .int .u64 7, .string ⟨#[107]⟩] d fun x w' => ∃ u, x = .returned (.tuple #[u, .int .i64 0]) ∧ Upls w' w'.heap.size u [⟨7, kK, []⟩] ∧ Q d w') := Lib.hid fun d => beginU_any [] (.slice none 0 0) 7 kK d _ 0 bg7 ⟨by simp, by simp⟩ (by decide +kernel) (Upls.nil _ _)
  have LY : Hid (∀ (L : List Prt) (m : Int) (s : ByteArray), okL L → nineL L → 1 ≤ m ∧ m ≤ 9 → s.size ≤ 2000 → ∀ d u, Upls d d.heap.size u [⟨7, kK, L⟩] → Calls Try.prog 12 #[u, .int .u64 7, .agg #[.int .i64 m, .string s]] d fun z w' => ∃ u, z = .returned (.tuple #[u, .int .u32 (crc (bl s) : Nat), .int .i64 0]) ∧ Upls w' w'.heap.size u [⟨7, kK, withP L ⟨m, s⟩⟩] ∧ Q d w') := Lib.hid fun L m s h1 h2 h3 h4 d u h => layU_any [⟨7, kK, L⟩] u 7 ⟨m, s⟩ d _ _ 0 (lay_7 h1 h2 (mayP_iff.2 ⟨h3.1, by show m ≤ 1000; omega, h4⟩) h3) ⟨by show _ ≤ m; omega, by show m ≤ _; omega, by unfold maxLen; show s.size ≤ _; omega⟩ (okUps_sm (ok_7 h1 h2)) h
  have LN : Hid (∀ (L : List Prt) (m : Int) (s : ByteArray), okL L → nineL L → 1 ≤ m ∧ m ≤ 9 → 2000 < s.size → s.size ≤ 5000 → ∀ d u, Upls d d.heap.size u [⟨7, kK, L⟩] → Calls Try.prog 12 #[u, .int .u64 7, .agg #[.int .i64 m, .string s]] d fun z w' => ∃ u, z = .returned (.tuple #[u, .int .u32 0, .int .i64 1]) ∧ Upls w' w'.heap.size u [] ∧ Q d w') := Lib.hid fun L m s h1 h2 h3 h4 h5 d u h => layU_any [⟨7, kK, L⟩] u 7 ⟨m, s⟩ d _ _ 1 (lay_7no (by cases hc : mayP ⟨m, s⟩ with | false => rfl | true => have := (mayP_iff.1 hc).2.2; simp only at this; omega)) ⟨by show _ ≤ m; omega, by show m ≤ _; omega, by unfold maxLen; show s.size ≤ _; omega⟩ (okUps_sm (ok_7 h1 h2)) h
  have FD : Hid (∀ (L : List Prt), okL L → nineL L → ∀ d u, Upls d d.heap.size u [⟨7, kK, L⟩] → Calls Try.prog 16 #[u, .int .u64 7] d fun x w' => ∃ u, x = .returned (.tuple #[.agg #[.int .u64 7, .string kK, u], .int .i64 0]) ∧ OwnP d.heap.size w' u L ∧ Q d w') := Lib.hid fun L h1 h2 d u h => findU_any [⟨7, kK, L⟩] u 7 d ⟨7, kK, L⟩ 0 (find_7 h1 h2) (okUps_sm (ok_7 h1 h2)) h
  have WH : Hid (∀ (L : List Prt), okL L → nineL L → ∀ s t e, WholeC ⟨7, kK, L⟩ (pcs L) s t e → ∀ d u z, Prts d d.heap.size u L → Pces d d.heap.size z (pcs L) → Calls Try.prog 28 #[.agg #[.int .u64 7, .string kK, u], z] d fun r w' => r = .returned (.tuple #[.string (mk s), .string (mk t), .int .i64 (e : Nat)]) ∧ Q d w') := Lib.hid fun L h1 h2 s t e h d u z hp hz => whole_any ⟨7, kK, L⟩ u (pcs L) z d s t e h (okUp_sm ((okUps_iff.1 (ok_7 h1 h2)).2.1 _ (by simp))) (by rw [pcs, List.length_map]; have := nine_few h1 h2; omega) hp hz
  have OF : Hid (∀ (s : ByteArray), s.size ≤ 5000 → ∀ d, Calls Try.prog 30 #[.string s] d fun e w' => e = .returned (.int .u32 (crc (bl s) : Nat)) ∧ d = w') := Lib.hid fun s h d => rof_any s d h
  have ON : Hid (∀ (x : Prt), okP x → ∀ d, Calls Try.prog 11 #[.agg #[.int .i64 x.n, .string x.data]] d fun e w' => e = .returned (.agg #[.int .i64 x.n, .string (oneD x.data)]) ∧ Q d w') := Lib.hid fun x h d => onePt_any x d h.2.2
  have AW := Lib.hid fun d => awakeU_any d
  have MM := @run_makeMap Try.prog
  unfold maxLen at z0
  have HT := Lib.hid t0
  obtain ⟨A, c, rfl⟩ := t0.form
  obtain ⟨N, hN⟩ : ∃ N, l.length = N := ⟨_, rfl⟩
  rw [hN] at HT z0 ⊢
  have HN := Lib.hid hN
  clear t0 hN
  go_enter Try.func6, Try.ntmps6
  go_wp2_with fail
  refine (BG.out _).mono ?_
  rintro e w1 ⟨u1, rfl, h1, q1⟩
  obtain ⟨A1, c1, rfl⟩ := h1.form
  have t1 := h1.on ((Q.refl w1).alloc (.map #[] 0))
  have m1 := InT.made w1
  have q2 := q1.alloc (.map #[] 0)
  have hb := q1.size
  simp only [List.length_singleton] at t1 ⊢
  clear h1 BG
  go_wp2_with fail
  go_loopw [3, 6, 7, 8, 9, 10] (fun U I _ _ _ _ wr => ∃ (i : Nat) (A5 : Option Addr) (c5 : Nat) (L : List Prt), i ≤ N ∧ i ≤ 20 ∧ I = .int .i64 i ∧ U = .slice A5 1 c5 ∧ Upls wr wr.heap.size (.slice A5 1 c5) [⟨7, kK, L⟩] ∧ InT w1.heap.size i L wr ∧ Q w wr ∧ w1.heap.size ≤ wr.heap.size ∧ Hid (okL L) ∧ Hid (nineL L)) (fun _ I _ _ _ _ _ => 20 - (intOf I).toNat)
  case atStart => exact ⟨0, _, _, [], Nat.zero_le _, Nat.zero_le _, rfl, rfl, t1, m1, q2, by simp, Lib.hid (fun i hi => absurd hi (by simp)), Lib.hid (fun x hx => by cases hx)⟩
  case round =>
    clear t1 m1 q2
    obtain ⟨i, A5, c5, L, hil, hi20, rfl, rfl, hu, im, q, hsz, HOK, HNI⟩ := hrel
    by_cases hgo : i < N ∧ i < 20
    · obtain ⟨hlt, hlt20⟩ := hgo
      have hltN : (i : Int) < (N : Int) := by omega
      have hlt20' : (i : Int) < 20 := by omega
      have hltL : i < l.length := by have := HN.out; omega
      obtain ⟨a, c', hv, ha, hokp, hat⟩ := HT.out.pick i hltL
      injection hv with e1 e2 e3
      subst e1 e3
      obtain ⟨c0, c1'⟩ := hat _ q
      have ONE := Lib.hid (ON.out _ hokp)
      have hds := oneD_size l[i].data
      obtain ⟨s, hs⟩ : ∃ s, s = oneD l[i].data := ⟨_, rfl⟩
      rw [← hs] at ONE hds
      have hok1 := hokp.1
      have hok2 := hokp.2.1
      obtain ⟨x, hx⟩ : ∃ x, x = l[i] := ⟨_, rfl⟩
      rw [← hx] at c0 c1' ONE hok1 hok2
      obtain ⟨xn, xd⟩ := x
      simp only at c0 c1' ONE hok1 hok2
      clear hat e2 hx hs hokp
      have hr1a : -9 < Int.tmod xn 9 := by have := Int.lt_tmod_of_pos xn (b := 9) (by omega); omega
      have hr1b : Int.tmod xn 9 < 9 := Int.tmod_lt_of_pos xn (by omega)
      go_wp2_with fail
      refine (ONE.out _).mono ?_
      rintro e w3 ⟨rfl, q3⟩
      have bx := Bx.new w3 25 #[.int .i64 xn, .string s]
      have b0 := bx.cell 0
      have f0 := bx.frozen 0
      simp only [List.getElem?_toArray, List.getElem?_cons_zero, List.getElem?_cons_succ] at b0
      go_upto_region 10 with fail
      generalize hm : 1 + Int.tmod xn 9 % 9 = m
      have hm9 : 1 ≤ m ∧ m ≤ 9 := by omega
      clear hr1a hr1b hm b0 f0
      have bx2 := Bx.new w3 25 #[.int .i64 m, .string s]
      have d0 := bx2.cell 0
      have d1 := bx2.cell 1
      simp only [List.getElem?_toArray, List.getElem?_cons_zero, List.getElem?_cons_succ] at d0 d1
      have q4 : Q w3 (w3.alloc (.cells #[.int .i64 m, .string s] 25)) := (Q.refl w3).alloc _
      have hq4 := q4.size
      generalize w3.alloc (.cells #[.int .i64 m, .string s] 25) = w4 at bx2 d0 d1 q4 hq4 ⊢
      have hu4 := Lib.hid (hu.on (q3.trans q4))
      have im4 := im.on (q3.trans q4)
      have q5 := q.trans (q3.trans q4)
      have hsz4 : w1.heap.size ≤ w3.heap.size := by have := q3.size; omega
      have BX4 := Lib.hid bx2
      clear bx bx2 hu im
      by_cases hbig : 2000 < s.size
      · have hbig' : (2000 : Int) < (s.size : Int) := by omega
        have LNN := Lib.hid (LN.out L m s HOK.out HNI.out hm9 hbig (by omega) _ _ hu4.out)
        go_wp2_with fail
        refine (LNN.out).mono ?_
        rintro e w5 ⟨u5, rfl, h5, q6⟩
        obtain ⟨A6, c6, rfl⟩ := h5.form
        simp only [List.length_nil]
        have y1 := (BX4.out.on q6).cell 1
        simp only [List.getElem?_toArray, List.getElem?_cons_zero, List.getElem?_cons_succ] at y1
        have hu6 := hu4.out.on q6
        have im6 := im4.on q6
        have q7 := q5.trans q6
        have hsz6 : w1.heap.size ≤ w5.heap.size := by have := q6.size; have := q4.size; omega
        clear h5 hu4 im4 q6 BX4 LNN
        go_wp2_with fail
        go_roundw
        case rel => exact ⟨i + 1, _, _, L, by omega, by omega, by go_num, rfl, hu6, im6.more (by omega), q7, hsz6, HOK, HNI⟩
        case measure => simp [intOf]; omega
      · have hbig' : ¬ (2000 : Int) < (s.size : Int) := by omega
        have LYY := Lib.hid (LY.out L m s HOK.out HNI.out hm9 (by omega) _ _ hu4.out)
        have OFF := Lib.hid (OF.out s (by omega))
        have hmp : mayP ⟨m, s⟩ = true := mayP_iff.2 ⟨hm9.1, by show m ≤ 1000; omega, by show s.size ≤ 2000; omega⟩
        have HOK2 : Hid (okL (withP L ⟨m, s⟩)) := Lib.hid (okL_with HOK.out hmp)
        have HNI2 : Hid (nineL (withP L ⟨m, s⟩)) := Lib.hid (nine_with HNI.out hm9)
        have HWF : Hid (wfI m) := Lib.hid (wf9 hm9)
        have hs5 : s.size ≤ 5000 := by omega
        obtain ⟨cv, hcv⟩ : ∃ c, c = crc (bl s) := ⟨_, rfl⟩
        rw [← hcv] at LYY OFF
        clear hcv hmp
        go_wp2_with fail
        refine (LYY.out).mono ?_
        rintro e w5 ⟨u5, rfl, h5, q6⟩
        obtain ⟨A6, c6, rfl⟩ := h5.form
        simp only [List.length_singleton] at h5 ⊢
        have y0 := (BX4.out.on q6).cell 0
        have y1 := (BX4.out.on q6).cell 1
        simp only [List.getElem?_toArray, List.getElem?_cons_zero, List.getElem?_cons_succ] at y0 y1
        have im6 := im4.on q6
        have q7 := q5.trans q6
        have hsz6 : w1.heap.size ≤ w5.heap.size := by have := q6.size; have := q4.size; omega
        have IM := Lib.hid im6
        clear hu4 im4 q6 BX4 LYY im6
        go_wp2_with fail
        refine (OFF.out _).mono ?_
        rintro e w6 ⟨rfl, rfl⟩
        go_wp2_with (first | (at_mapUpdate; refine wpList_inT_put IM.out rfl _ _ _ rfl (by omega) ⟨m, s⟩ HWF.out hs5 rfl rfl rfl ?_; intro w11 im11 g11) | fail)
        have hu11 := (h5.same (IM.out.cells g11)).more g11.size
        have hsz11 : w1.heap.size ≤ w11.heap.size := by have := g11.size; omega
        have q11 := q7.mapped g11 hb
        go_roundw
        case rel => exact ⟨i + 1, _, _, _, by omega, by omega, by go_num, rfl, hu11, im11, q11, hsz11, HOK2, HNI2⟩
        case measure => simp [intOf]; omega
    · have hend : ¬ (i : Int) < (N : Int) ∨ ((i : Int) < (N : Int) ∧ ¬ (i : Int) < 20) := by omega
      obtain ⟨wo, hwo⟩ : ∃ x, x = wr := ⟨_, rfl⟩
      subst hwo
      clear hgo ON LY LN hil hi20 HT HN z0
      rcases hend with hend | ⟨hend, hend2⟩
      · as_aux_lemma =>
          go_wp2_with fail
          go_loopw [11, 12, 13, 14, 15, 16, 17, 18, 19] (fun P T S I _ _ _ _ _ wr => ∃ (n : Nat) (A6 : Option Addr) (n6 c6 : Nat) (X : ByteArray) (sh : Bool), 1 ≤ n ∧ n ≤ 10 ∧ I = .int .i64 n ∧ P = .slice A6 n6 c6 ∧ T = .string X ∧ S = .bool sh ∧ OwnC wo.heap.size wr (.slice A6 n6 c6) (pcs (upTo L n)) ∧ Q wo wr ∧ X.size ≤ 2000 * n ∧ Hid (X = mk (dats (upTo L n))) ∧ Hid (sh = true ↔ shT L n)) (fun _ _ _ I _ _ _ _ _ _ => 10 - (intOf I).toNat)
          case atStart => exact ⟨1, none, 0, 0, ⟨#[]⟩, false, by omega, by omega, rfl, rfl, rfl, rfl, (by have e : upTo L ((1 : Nat) : Int) = [] := upTo_one HNI.out; rw [e]; exact OwnC.nil _ _), Q.refl _, (by decide), Lib.hid (by have e : upTo L ((1 : Nat) : Int) = [] := upTo_one HNI.out; rw [e]; rfl), Lib.hid (by constructor; (intro h; simp at h); (rintro ⟨p, hp, h1, -⟩; have := HNI.out p hp; omega))⟩
          case round =>
            obtain ⟨n, A6, n6, c6, X, sh, hn1, hn10, rfl, rfl, rfl, rfl, own, q2, hX, HX, HSH⟩ := hrel
            obtain ⟨wn, hwn⟩ : ∃ x, x = wr := ⟨_, rfl⟩
            subst hwn
            have hcast : ((n + 1 : Nat) : Int) = (n : Int) + 1 := by omega
            by_cases hn9 : n ≤ 9
            · have hn9' : (n : Int) ≤ 9 := by omega
              have hwf : wfI (n : Int) := wf9 (by omega)
              have hfew : (pcs (upTo L n)).length ≤ 1000 := by
                rw [pcs, List.length_map]
                have h1 : (upTo L n).length ≤ L.length := List.length_filter_le ..
                have := nine_few HOK.out HNI.out; omega
              rcases part_find L (n : Int) with ⟨p, hp, hpn⟩ | hno
              · have hrun := (im.on q2).yes hp (by rw [hpn]; exact hwf)
                rw [hpn] at hrun
                have hsz9 := (mayP_iff.1 ((okL_iff.1 HOK.out).1 p hp)).2.2
                have UY := upTo_yes HOK.out hp
                have SY := shT_yes HOK.out HNI.out hp
                rw [hpn] at UY SY
                have HP1 : Hid (pcs (upTo L ((n + 1 : Nat) : Int)) = pcs (upTo L n) ++ [⟨(n : Int), crc (bl p.data)⟩]) := Lib.hid (by rw [hcast, UY, pcs, pcs, List.map_append, ← hpn]; rfl)
                have HX1 : Hid (X ++ p.data = mk (dats (upTo L ((n + 1 : Nat) : Int)))) := Lib.hid (by rw [hcast, UY, HX.out]; exact bl_inj (by rw [bl_append, bl_mk, bl_mk, dats, dats, List.flatMap_append]; simp))
                have HS1 : Hid (shT L ((n + 1 : Nat) : Int) ↔ sh = true ∨ (p.data.size < 5 ∧ behind L n 10)) := Lib.hid (by rw [hcast, SY, HSH.out])
                have OFF := Lib.hid (OF.out p.data (by omega))
                have HOC : Hid (okC ⟨(n : Int), crc (bl p.data)⟩) := Lib.hid ⟨by show _ ≤ (n : Int); omega, by show (n : Int) ≤ _; omega, crc_lt _⟩
                obtain ⟨cv, hcv⟩ : ∃ c, c = crc (bl p.data) := ⟨_, rfl⟩
                rw [← hcv] at HP1 OFF HOC
                obtain ⟨s, hs⟩ : ∃ s, s = p.data := ⟨_, rfl⟩
                rw [← hs] at hrun HX1 HS1 OFF hsz9
                clear hcv hs UY SY hp hpn
                go_wp2_with fail
                go_loopw [13, 17, 18, 19] (fun S K _ _ wy => ∃ (k : Nat) (sk : Bool), n + 1 ≤ k ∧ k ≤ 10 ∧ K = .int .i64 k ∧ S = .bool sk ∧ Q wn wy ∧ Hid (sk = true ↔ sh = true ∨ (s.size < 5 ∧ behind L n k))) (fun _ K _ _ _ => 10 - (intOf K).toNat)
                case atStart => exact ⟨n + 1, sh, by omega, by omega, by go_num, rfl, Q.refl _, Lib.hid (by rw [hcast]; constructor; (exact fun h => .inl h); (rintro (h | ⟨-, h⟩); (exact h); (exact absurd h behind_0)))⟩
                case round =>
                  obtain ⟨k, sk, hk1, hk10, rfl, rfl, q3, HSK⟩ := hrel
                  obtain ⟨wy, hwy⟩ : ∃ x, x = wr := ⟨_, rfl⟩
                  subst hwy
                  have hcastk : ((k + 1 : Nat) : Int) = (k : Int) + 1 := by omega
                  by_cases hk9 : k ≤ 9
                  · have hk9' : (k : Int) ≤ 9 := by omega
                    have hwfk : wfI (k : Int) := wf9 (by omega)
                    rcases part_find L (k : Int) with ⟨y, hy, hyk⟩ | hnok
                    · have hrunk := ((im.on q2).on q3).yes hy (by rw [hyk]; exact hwfk)
                      rw [hyk] at hrunk
                      have BY := behind_yes (n := (n : Int)) hy hyk (by omega)
                      clear hy hyk
                      by_cases h5 : s.size < 5
                      · have h5' : (s.size : Int) < 5 := by omega
                        have HS2 : Hid (true = true ↔ sh = true ∨ (s.size < 5 ∧ behind L n ((k + 1 : Nat) : Int))) := Lib.hid (by rw [hcastk]; exact ⟨fun _ => .inr ⟨h5, BY⟩, fun _ => rfl⟩)
                        clear BY
                        go_wp2_with fail
                        go_roundw
                        case rel => exact ⟨k + 1, true, by omega, by omega, by go_num, rfl, q3, HS2⟩
                        case measure => simp [intOf]; omega
                      · have h5' : ¬ (s.size : Int) < 5 := by omega
                        have HS2 : Hid (sk = true ↔ sh = true ∨ (s.size < 5 ∧ behind L n ((k + 1 : Nat) : Int))) := Lib.hid (by rw [HSK.out]; simp [h5])
                        clear BY
                        go_wp2_with fail
                        go_roundw
                        case rel => exact ⟨k + 1, sk, by omega, by omega, by go_num, rfl, q3, HS2⟩
                        case measure => simp [intOf]; omega
                    · obtain ⟨zz, hrunk⟩ := ((im.on q2).on q3).no hnok hwfk
                      have HS2 : Hid (sk = true ↔ sh = true ∨ (s.size < 5 ∧ behind L n ((k + 1 : Nat) : Int))) := Lib.hid (by rw [hcastk, behind_no hnok]; exact HSK.out)
                      clear hnok
                      go_wp2_with fail
                      go_roundw
                      case rel => exact ⟨k + 1, sk, by omega, by omega, by go_num, rfl, q3, HS2⟩
                      case measure => simp [intOf]; omega
                  · have hk9' : ¬ (k : Int) ≤ 9 := by omega
                    have HS3 : Hid (sk = true ↔ shT L ((n + 1 : Nat) : Int)) := Lib.hid (by rw [HS1.out, HSK.out, show (k : Int) = 10 by omega])
                    have own3 := own.on q3
                    have own4 := own3.on ((Q.refl wy).alloc (.cells #[.int .i64 (n : Nat), .int .u32 (cv : Nat)] 65))
                    have q4 := (q2.trans q3).alloc (.cells #[.int .i64 (n : Nat), .int .u32 (cv : Nat)] 65)
                    have hs3 := (q2.trans q3).size
                    have hcat : X.size + s.size ≤ 400000 := by omega
                    clear hrun own own3 HS1 HSK
                    go_wp2_with fail
                    refine (OFF.out _).mono ?_
                    rintro e w6 ⟨rfl, rfl⟩
                    go_wp2_with (at_builtin; refine wpList_snoc_pce _ rfl _ _ 55 65 Try.underlying55 rfl wo.heap.size wy.heap.size _ _ ⟨(n : Int), cv⟩ rfl rfl (cells_onepce wy ⟨(n : Int), cv⟩ 65) own4 ?hb ?hl ?_; (case hb => simp; omega); (case hl => omega); intro v8 w8 o8 g8)
                    have q8 : Q wo w8 := q4.grown g8 (by simp; omega) (fun k hk => (World.ownsRow.lt own4 k hk).1)
                    rw [← HP1.out] at o8
                    obtain ⟨A9, n9, c9, rfl⟩ : ∃ A n c, v8 = .slice A n c := by obtain ⟨A, c, e⟩ := o8.form; exact ⟨A, _, c, e⟩
                    go_wp2_with fail
                    go_roundw
                    case rel => exact ⟨n + 1, _, _, _, _, _, by omega, by omega, by go_num, rfl, rfl, rfl, o8, q8, by rw [ByteArray.size_append]; omega, HX1, HS3⟩
                    case measure => simp [intOf]; omega
              · obtain ⟨zz, hrun⟩ := (im.on q2).no hno hwf
                have UN := upTo_no hno
                have own1 : OwnC wo.heap.size wn (.slice A6 n6 c6) (pcs (upTo L ((n + 1 : Nat) : Int))) := by rw [hcast, UN]; exact own
                have HX1 : Hid (X = mk (dats (upTo L ((n + 1 : Nat) : Int)))) := Lib.hid (by rw [hcast, UN]; exact HX.out)
                have HS1 : Hid (sh = true ↔ shT L ((n + 1 : Nat) : Int)) := Lib.hid (by rw [hcast, shT_no hno]; exact HSH.out)
                clear UN hno own
                go_wp2_with fail
                go_roundw
                case rel => exact ⟨n + 1, _, _, _, _, _, by omega, by omega, by go_num, rfl, rfl, rfl, own1, q2, by omega, HX1, HS1⟩
                case measure => simp [intOf]; omega
            · have hn9' : ¬ (n : Int) ≤ 9 := by omega
              have hn : (n : Int) = 10 := by omega
              rw [hn, upTo_all HNI.out] at own
              have HXX : Hid (X = mk (dats L)) := Lib.hid (by have := HX.out; rw [hn, upTo_all HNI.out] at this; exact this)
              obtain ⟨t, hW⟩ := whole_7 HOK.out HNI.out (sh := sh) (by have := HSH.out; rw [hn] at this; exact this)
              have hlen : (dats L).length = X.size := by rw [HXX.out, mk_size]
              rw [hlen] at hW
              have hn6 : n6 = L.length := by obtain ⟨A, c, e⟩ := own.form; injection e with _ e; rw [e, pcs, List.length_map]
              have okcs : ∀ x ∈ pcs L, okC x := fun x hx => by
                obtain ⟨p, hp, rfl⟩ := List.mem_map.1 hx
                have := HNI.out p hp
                exact ⟨by show _ ≤ p.n; omega, by show p.n ≤ _; omega, crc_lt _⟩
              have okps : ∀ x ∈ L, okP x := fun x hx => by
                have := mayP_iff.1 ((okL_iff.1 HOK.out).1 x hx)
                exact ⟨by omega, by omega, by unfold maxLen; omega⟩
              have PZ := Lib.hid (own.read okcs)
              have FDD := Lib.hid (FD.out L HOK.out HNI.out _ _ (hu.on q2))
              have HOKP := Lib.hid okps
              have qa := q.trans q2
              have HN6 := Lib.hid hn6
              have HWH := Lib.hid hW
              clear own hu im HX HSH hcast okcs okps hn9 hn1 hn10 hn hn6 hlen hW
              go_wp2_with fail
              refine (FDD.out).mono ?_
              rintro e w7 ⟨u7, rfl, o7, q7⟩
              have p7 := (o7.read HOKP.out).on ((Q.refl w7).alloc (.cells #[.int .u64 7, .string kK, u7] 40))
              obtain ⟨A7, n7, c7, rfl⟩ := o7.nm
              have q8 := q7.alloc (.cells #[.int .u64 7, .string kK, .slice A7 n7 c7] 40)
              have PZ8 := PZ.out.on q8
              have b := Bx.new w7 40 #[.int .u64 7, .string kK, .slice A7 n7 c7]
              have b0 := b.cell 0
              have b1 := b.cell 1
              have b2 := b.cell 2
              simp only [List.getElem?_toArray, List.getElem?_cons_zero, List.getElem?_cons_succ] at b0 b1 b2
              have qb := qa.trans q8
              clear o7 b q7 FDD PZ
              have hn6 := HN6.out
              have hW := HWH.out
              by_cases h0 : L = []
              · rw [if_pos h0, if_pos h0] at hW
                have C := Lib.hid (WH.out L HOK.out HNI.out _ _ _ hW _ _ _ p7 PZ8)
                have hn6' : (n6 : Int) = 0 := by rw [hn6, h0]; rfl
                obtain ⟨Y, hY⟩ : ∃ Y, Y = mk t := ⟨_, rfl⟩
                rw [← hY] at C
                clear hY hW
                clear h0 hn6
                go_wp2_with fail
                refine (C.out).mono ?_
                rintro e w8 ⟨rfl, q9⟩
                clear b0 b1 b2
                go_wp2_with fail
                refine (AW.out _).mono ?_
                rintro e w9 ⟨rfl, q10⟩
                go_wp2
                go_ret
                exact ⟨rfl, qb.trans (q9.trans q10)⟩
              · rw [if_neg h0, if_neg h0] at hW
                have hn6' : ¬ (n6 : Int) = 0 := by
                  have h1 : L.length ≠ 0 := fun h => h0 (List.length_eq_zero_iff.1 h)
                  omega
                clear h0 hn6
                cases sh with
                | true =>
                  simp only [↓reduceIte] at hW
                  have C := Lib.hid (WH.out L HOK.out HNI.out _ _ _ hW _ _ _ p7 PZ8)
                  obtain ⟨Y, hY⟩ : ∃ Y, Y = mk t := ⟨_, rfl⟩
                  rw [← hY] at C
                  clear hY hW
                  go_wp2_with fail
                  refine (C.out).mono ?_
                  rintro e w8 ⟨rfl, q9⟩
                  clear b0 b1 b2
                  go_wp2_with fail
                  refine (AW.out _).mono ?_
                  rintro e w9 ⟨rfl, q10⟩
                  go_wp2
                  go_ret
                  exact ⟨rfl, qb.trans (q9.trans q10)⟩
                | false =>
                  simp only [Bool.false_eq_true, ↓reduceIte] at hW
                  by_cases h20 : 2000 < X.size
                  · rw [if_pos h20, if_pos h20] at hW
                    have h20' : (2000 : Int) < (X.size : Int) := by omega
                    have C := Lib.hid (WH.out L HOK.out HNI.out _ _ _ hW _ _ _ p7 PZ8)
                    obtain ⟨Y, hY⟩ : ∃ Y, Y = mk t := ⟨_, rfl⟩
                    rw [← hY] at C
                    clear hY hW
                    go_wp2_with fail
                    refine (C.out).mono ?_
                    rintro e w8 ⟨rfl, q9⟩
                    clear b0 b1 b2
                    go_wp2_with fail
                    refine (AW.out _).mono ?_
                    rintro e w9 ⟨rfl, q10⟩
                    go_wp2
                    go_ret
                    exact ⟨rfl, qb.trans (q9.trans q10)⟩
                  · rw [if_neg h20, if_neg h20] at hW
                    have h20' : ¬ (2000 : Int) < (X.size : Int) := by omega
                    have C := Lib.hid (WH.out L HOK.out HNI.out _ _ _ hW _ _ _ p7 PZ8)
                    rw [← HXX.out] at C
                    have heX : (X.toList == X.toList) = true := by simp
                    obtain ⟨Y, hY⟩ : ∃ Y, Y = mk t := ⟨_, rfl⟩
                    rw [← hY] at C
                    clear hY hW
                    go_wp2_with fail
                    refine (C.out).mono ?_
                    rintro e w8 ⟨rfl, q9⟩
                    clear b0 b1 b2
                    go_wp2_with fail
                    refine (AW.out _).mono ?_
                    rintro e w9 ⟨rfl, q10⟩
                    go_wp2
                    go_ret
                    exact ⟨rfl, qb.trans (q9.trans q10)⟩
      · as_aux_lemma =>
          go_wp2_with fail
          go_loopw [11, 12, 13, 14, 15, 16, 17, 18, 19] (fun P T S I _ _ _ _ _ wr => ∃ (n : Nat) (A6 : Option Addr) (n6 c6 : Nat) (X : ByteArray) (sh : Bool), 1 ≤ n ∧ n ≤ 10 ∧ I = .int .i64 n ∧ P = .slice A6 n6 c6 ∧ T = .string X ∧ S = .bool sh ∧ OwnC wo.heap.size wr (.slice A6 n6 c6) (pcs (upTo L n)) ∧ Q wo wr ∧ X.size ≤ 2000 * n ∧ Hid (X = mk (dats (upTo L n))) ∧ Hid (sh = true ↔ shT L n)) (fun _ _ _ I _ _ _ _ _ _ => 10 - (intOf I).toNat)
          case atStart => exact ⟨1, none, 0, 0, ⟨#[]⟩, false, by omega, by omega, rfl, rfl, rfl, rfl, (by have e : upTo L ((1 : Nat) : Int) = [] := upTo_one HNI.out; rw [e]; exact OwnC.nil _ _), Q.refl _, (by decide), Lib.hid (by have e : upTo L ((1 : Nat) : Int) = [] := upTo_one HNI.out; rw [e]; rfl), Lib.hid (by constructor; (intro h; simp at h); (rintro ⟨p, hp, h1, -⟩; have := HNI.out p hp; omega))⟩
          case round =>
            obtain ⟨n, A6, n6, c6, X, sh, hn1, hn10, rfl, rfl, rfl, rfl, own, q2, hX, HX, HSH⟩ := hrel
            obtain ⟨wn, hwn⟩ : ∃ x, x = wr := ⟨_, rfl⟩
            subst hwn
            have hcast : ((n + 1 : Nat) : Int) = (n : Int) + 1 := by omega
            by_cases hn9 : n ≤ 9
            · have hn9' : (n : Int) ≤ 9 := by omega
              have hwf : wfI (n : Int) := wf9 (by omega)
              have hfew : (pcs (upTo L n)).length ≤ 1000 := by
                rw [pcs, List.length_map]
                have h1 : (upTo L n).length ≤ L.length := List.length_filter_le ..
                have := nine_few HOK.out HNI.out; omega
              rcases part_find L (n : Int) with ⟨p, hp, hpn⟩ | hno
              · have hrun := (im.on q2).yes hp (by rw [hpn]; exact hwf)
                rw [hpn] at hrun
                have hsz9 := (mayP_iff.1 ((okL_iff.1 HOK.out).1 p hp)).2.2
                have UY := upTo_yes HOK.out hp
                have SY := shT_yes HOK.out HNI.out hp
                rw [hpn] at UY SY
                have HP1 : Hid (pcs (upTo L ((n + 1 : Nat) : Int)) = pcs (upTo L n) ++ [⟨(n : Int), crc (bl p.data)⟩]) := Lib.hid (by rw [hcast, UY, pcs, pcs, List.map_append, ← hpn]; rfl)
                have HX1 : Hid (X ++ p.data = mk (dats (upTo L ((n + 1 : Nat) : Int)))) := Lib.hid (by rw [hcast, UY, HX.out]; exact bl_inj (by rw [bl_append, bl_mk, bl_mk, dats, dats, List.flatMap_append]; simp))
                have HS1 : Hid (shT L ((n + 1 : Nat) : Int) ↔ sh = true ∨ (p.data.size < 5 ∧ behind L n 10)) := Lib.hid (by rw [hcast, SY, HSH.out])
                have OFF := Lib.hid (OF.out p.data (by omega))
                have HOC : Hid (okC ⟨(n : Int), crc (bl p.data)⟩) := Lib.hid ⟨by show _ ≤ (n : Int); omega, by show (n : Int) ≤ _; omega, crc_lt _⟩
                obtain ⟨cv, hcv⟩ : ∃ c, c = crc (bl p.data) := ⟨_, rfl⟩
                rw [← hcv] at HP1 OFF HOC
                obtain ⟨s, hs⟩ : ∃ s, s = p.data := ⟨_, rfl⟩
                rw [← hs] at hrun HX1 HS1 OFF hsz9
                clear hcv hs UY SY hp hpn
                go_wp2_with fail
                go_loopw [13, 17, 18, 19] (fun S K _ _ wy => ∃ (k : Nat) (sk : Bool), n + 1 ≤ k ∧ k ≤ 10 ∧ K = .int .i64 k ∧ S = .bool sk ∧ Q wn wy ∧ Hid (sk = true ↔ sh = true ∨ (s.size < 5 ∧ behind L n k))) (fun _ K _ _ _ => 10 - (intOf K).toNat)
                case atStart => exact ⟨n + 1, sh, by omega, by omega, by go_num, rfl, Q.refl _, Lib.hid (by rw [hcast]; constructor; (exact fun h => .inl h); (rintro (h | ⟨-, h⟩); (exact h); (exact absurd h behind_0)))⟩
                case round =>
                  obtain ⟨k, sk, hk1, hk10, rfl, rfl, q3, HSK⟩ := hrel
                  obtain ⟨wy, hwy⟩ : ∃ x, x = wr := ⟨_, rfl⟩
                  subst hwy
                  have hcastk : ((k + 1 : Nat) : Int) = (k : Int) + 1 := by omega
                  by_cases hk9 : k ≤ 9
                  · have hk9' : (k : Int) ≤ 9 := by omega
                    have hwfk : wfI (k : Int) := wf9 (by omega)
                    rcases part_find L (k : Int) with ⟨y, hy, hyk⟩ | hnok
                    · have hrunk := ((im.on q2).on q3).yes hy (by rw [hyk]; exact hwfk)
                      rw [hyk] at hrunk
                      have BY := behind_yes (n := (n : Int)) hy hyk (by omega)
                      clear hy hyk
                      by_cases h5 : s.size < 5
                      · have h5' : (s.size : Int) < 5 := by omega
                        have HS2 : Hid (true = true ↔ sh = true ∨ (s.size < 5 ∧ behind L n ((k + 1 : Nat) : Int))) := Lib.hid (by rw [hcastk]; exact ⟨fun _ => .inr ⟨h5, BY⟩, fun _ => rfl⟩)
                        clear BY
                        go_wp2_with fail
                        go_roundw
                        case rel => exact ⟨k + 1, true, by omega, by omega, by go_num, rfl, q3, HS2⟩
                        case measure => simp [intOf]; omega
                      · have h5' : ¬ (s.size : Int) < 5 := by omega
                        have HS2 : Hid (sk = true ↔ sh = true ∨ (s.size < 5 ∧ behind L n ((k + 1 : Nat) : Int))) := Lib.hid (by rw [HSK.out]; simp [h5])
                        clear BY
                        go_wp2_with fail
                        go_roundw
                        case rel => exact ⟨k + 1, sk, by omega, by omega, by go_num, rfl, q3, HS2⟩
                        case measure => simp [intOf]; omega
                    · obtain ⟨zz, hrunk⟩ := ((im.on q2).on q3).no hnok hwfk
                      have HS2 : Hid (sk = true ↔ sh = true ∨ (s.size < 5 ∧ behind L n ((k + 1 : Nat) : Int))) := Lib.hid (by rw [hcastk, behind_no hnok]; exact HSK.out)
                      clear hnok
                      go_wp2_with fail
                      go_roundw
                      case rel => exact ⟨k + 1, sk, by omega, by omega, by go_num, rfl, q3, HS2⟩
                      case measure => simp [intOf]; omega
                  · have hk9' : ¬ (k : Int) ≤ 9 := by omega
                    have HS3 : Hid (sk = true ↔ shT L ((n + 1 : Nat) : Int)) := Lib.hid (by rw [HS1.out, HSK.out, show (k : Int) = 10 by omega])
                    have own3 := own.on q3
                    have own4 := own3.on ((Q.refl wy).alloc (.cells #[.int .i64 (n : Nat), .int .u32 (cv : Nat)] 65))
                    have q4 := (q2.trans q3).alloc (.cells #[.int .i64 (n : Nat), .int .u32 (cv : Nat)] 65)
                    have hs3 := (q2.trans q3).size
                    have hcat : X.size + s.size ≤ 400000 := by omega
                    clear hrun own own3 HS1 HSK
                    go_wp2_with fail
                    refine (OFF.out _).mono ?_
                    rintro e w6 ⟨rfl, rfl⟩
                    go_wp2_with (at_builtin; refine wpList_snoc_pce _ rfl _ _ 55 65 Try.underlying55 rfl wo.heap.size wy.heap.size _ _ ⟨(n : Int), cv⟩ rfl rfl (cells_onepce wy ⟨(n : Int), cv⟩ 65) own4 ?hb ?hl ?_; (case hb => simp; omega); (case hl => omega); intro v8 w8 o8 g8)
                    have q8 : Q wo w8 := q4.grown g8 (by simp; omega) (fun k hk => (World.ownsRow.lt own4 k hk).1)
                    rw [← HP1.out] at o8
                    obtain ⟨A9, n9, c9, rfl⟩ : ∃ A n c, v8 = .slice A n c := by obtain ⟨A, c, e⟩ := o8.form; exact ⟨A, _, c, e⟩
                    go_wp2_with fail
                    go_roundw
                    case rel => exact ⟨n + 1, _, _, _, _, _, by omega, by omega, by go_num, rfl, rfl, rfl, o8, q8, by rw [ByteArray.size_append]; omega, HX1, HS3⟩
                    case measure => simp [intOf]; omega
              · obtain ⟨zz, hrun⟩ := (im.on q2).no hno hwf
                have UN := upTo_no hno
                have own1 : OwnC wo.heap.size wn (.slice A6 n6 c6) (pcs (upTo L ((n + 1 : Nat) : Int))) := by rw [hcast, UN]; exact own
                have HX1 : Hid (X = mk (dats (upTo L ((n + 1 : Nat) : Int)))) := Lib.hid (by rw [hcast, UN]; exact HX.out)
                have HS1 : Hid (sh = true ↔ shT L ((n + 1 : Nat) : Int)) := Lib.hid (by rw [hcast, shT_no hno]; exact HSH.out)
                clear UN hno own
                go_wp2_with fail
                go_roundw
                case rel => exact ⟨n + 1, _, _, _, _, _, by omega, by omega, by go_num, rfl, rfl, rfl, own1, q2, by omega, HX1, HS1⟩
                case measure => simp [intOf]; omega
            · have hn9' : ¬ (n : Int) ≤ 9 := by omega
              have hn : (n : Int) = 10 := by omega
              rw [hn, upTo_all HNI.out] at own
              have HXX : Hid (X = mk (dats L)) := Lib.hid (by have := HX.out; rw [hn, upTo_all HNI.out] at this; exact this)
              obtain ⟨t, hW⟩ := whole_7 HOK.out HNI.out (sh := sh) (by have := HSH.out; rw [hn] at this; exact this)
              have hlen : (dats L).length = X.size := by rw [HXX.out, mk_size]
              rw [hlen] at hW
              have hn6 : n6 = L.length := by obtain ⟨A, c, e⟩ := own.form; injection e with _ e; rw [e, pcs, List.length_map]
              have okcs : ∀ x ∈ pcs L, okC x := fun x hx => by
                obtain ⟨p, hp, rfl⟩ := List.mem_map.1 hx
                have := HNI.out p hp
                exact ⟨by show _ ≤ p.n; omega, by show p.n ≤ _; omega, crc_lt _⟩
              have okps : ∀ x ∈ L, okP x := fun x hx => by
                have := mayP_iff.1 ((okL_iff.1 HOK.out).1 x hx)
                exact ⟨by omega, by omega, by unfold maxLen; omega⟩
              have PZ := Lib.hid (own.read okcs)
              have FDD := Lib.hid (FD.out L HOK.out HNI.out _ _ (hu.on q2))
              have HOKP := Lib.hid okps
              have qa := q.trans q2
              have HN6 := Lib.hid hn6
              have HWH := Lib.hid hW
              clear own hu im HX HSH hcast okcs okps hn9 hn1 hn10 hn hn6 hlen hW
              go_wp2_with fail
              refine (FDD.out).mono ?_
              rintro e w7 ⟨u7, rfl, o7, q7⟩
              have p7 := (o7.read HOKP.out).on ((Q.refl w7).alloc (.cells #[.int .u64 7, .string kK, u7] 40))
              obtain ⟨A7, n7, c7, rfl⟩ := o7.nm
              have q8 := q7.alloc (.cells #[.int .u64 7, .string kK, .slice A7 n7 c7] 40)
              have PZ8 := PZ.out.on q8
              have b := Bx.new w7 40 #[.int .u64 7, .string kK, .slice A7 n7 c7]
              have b0 := b.cell 0
              have b1 := b.cell 1
              have b2 := b.cell 2
              simp only [List.getElem?_toArray, List.getElem?_cons_zero, List.getElem?_cons_succ] at b0 b1 b2
              have qb := qa.trans q8
              clear o7 b q7 FDD PZ
              have hn6 := HN6.out
              have hW := HWH.out
              by_cases h0 : L = []
              · rw [if_pos h0, if_pos h0] at hW
                have C := Lib.hid (WH.out L HOK.out HNI.out _ _ _ hW _ _ _ p7 PZ8)
                have hn6' : (n6 : Int) = 0 := by rw [hn6, h0]; rfl
                obtain ⟨Y, hY⟩ : ∃ Y, Y = mk t := ⟨_, rfl⟩
                rw [← hY] at C
                clear hY hW
                clear h0 hn6
                go_wp2_with fail
                refine (C.out).mono ?_
                rintro e w8 ⟨rfl, q9⟩
                clear b0 b1 b2
                go_wp2_with fail
                refine (AW.out _).mono ?_
                rintro e w9 ⟨rfl, q10⟩
                go_wp2
                go_ret
                exact ⟨rfl, qb.trans (q9.trans q10)⟩
              · rw [if_neg h0, if_neg h0] at hW
                have hn6' : ¬ (n6 : Int) = 0 := by
                  have h1 : L.length ≠ 0 := fun h => h0 (List.length_eq_zero_iff.1 h)
                  omega
                clear h0 hn6
                cases sh with
                | true =>
                  simp only [↓reduceIte] at hW
                  have C := Lib.hid (WH.out L HOK.out HNI.out _ _ _ hW _ _ _ p7 PZ8)
                  obtain ⟨Y, hY⟩ : ∃ Y, Y = mk t := ⟨_, rfl⟩
                  rw [← hY] at C
                  clear hY hW
                  go_wp2_with fail
                  refine (C.out).mono ?_
                  rintro e w8 ⟨rfl, q9⟩
                  clear b0 b1 b2
                  go_wp2_with fail
                  refine (AW.out _).mono ?_
                  rintro e w9 ⟨rfl, q10⟩
                  go_wp2
                  go_ret
                  exact ⟨rfl, qb.trans (q9.trans q10)⟩
                | false =>
                  simp only [Bool.false_eq_true, ↓reduceIte] at hW
                  by_cases h20 : 2000 < X.size
                  · rw [if_pos h20, if_pos h20] at hW
                    have h20' : (2000 : Int) < (X.size : Int) := by omega
                    have C := Lib.hid (WH.out L HOK.out HNI.out _ _ _ hW _ _ _ p7 PZ8)
                    obtain ⟨Y, hY⟩ : ∃ Y, Y = mk t := ⟨_, rfl⟩
                    rw [← hY] at C
                    clear hY hW
                    go_wp2_with fail
                    refine (C.out).mono ?_
                    rintro e w8 ⟨rfl, q9⟩
                    clear b0 b1 b2
                    go_wp2_with fail
                    refine (AW.out _).mono ?_
                    rintro e w9 ⟨rfl, q10⟩
                    go_wp2
                    go_ret
                    exact ⟨rfl, qb.trans (q9.trans q10)⟩
                  · rw [if_neg h20, if_neg h20] at hW
                    have h20' : ¬ (2000 : Int) < (X.size : Int) := by omega
                    have C := Lib.hid (WH.out L HOK.out HNI.out _ _ _ hW _ _ _ p7 PZ8)
                    rw [← HXX.out] at C
                    have heX : (X.toList == X.toList) = true := by simp
                    obtain ⟨Y, hY⟩ : ∃ Y, Y = mk t := ⟨_, rfl⟩
                    rw [← hY] at C
                    clear hY hW
                    go_wp2_with fail
                    refine (C.out).mono ?_
                    rintro e w8 ⟨rfl, q9⟩
                    clear b0 b1 b2
                    go_wp2_with fail
                    refine (AW.out _).mono ?_
                    rintro e w9 ⟨rfl, q10⟩
                    go_wp2
                    go_ret
                    exact ⟨rfl, qb.trans (q9.trans q10)⟩

set_option maxRecDepth 100000 in
theorem lifted (os : Os) (started : os.Started) (H : Type) (enc : TypeId × Value → H) :
    ReturnsInHanded {} Try.checked os 6 .any (Rows.partsTurnsSpec.pre6 enc Try.prog Try.f6 Rows.partsTurnsRow.domain false) (Rows.partsTurnsSpec.post enc Try.prog Try.f6 false true false false) := by
  refine returnsInHanded_of_change (C := Try.checked) own started (by kernel_rfl) Try.func6
    (ChangeSpec.witness6 (enc := enc) (C := Try.checked) false ⟨#[], #[.slice none 0 0], []⟩ 8 (by kernel_rfl) (by kernel_rfl) (by kernel_rfl) (by kernel_rfl)) ?_
  intro W base args ds gs before hval0 hW hcnd _
  have hval : ∀ (j : Nat) t v, Try.f6.params[j]? = some t → args[j]? = some v → Value.okWide Try.prog W .any base t v := hval0
  have hW' := hW
  obtain ⟨p, q, hA0, hV, rfl, hfz, hnd⟩ := hW
  have hA : DataW.TrodAll enc Try.prog W 0 (fun _ => true) true Try.f6.params.toList args.toList ds p := hA0
  rw [Try.params6] at hA hval
  obtain ⟨v0, vs0, d0, ds0, p0, q0, hargs, rfl, rfl, h0, r0⟩ := trodAll_cons hA
  obtain ⟨rfl, rfl, rfl⟩ := trodAll_nil r0
  obtain rfl : args = #[v0] := by cases args; simp_all
  obtain ⟨rfl, rfl⟩ := trodVars_none hV
  clear hA0 hval0
  simp only [List.append_nil] at hW'
  have hlt : ∀ x ∈ p0, x.block < W.heap.size := fun x hx => by simpa using hW'.lt x (by simpa using hx)
  obtain ⟨l0, t0, z0⟩ := open_parts (hval 0 38 v0 rfl rfl) h0
  refine (walk l0 v0 W t0 z0).mono fun e W' ⟨he, bel⟩ => ?_
  subst he
  refine ⟨_, rfl, _, _, _, [], _, [], hW', trodAll_mk1 (shut_bool Try.underlying4 _), (trodAll_cons_mk (Below.trod laid (by kernel_rfl) (of_decide_eq_true (by kernel_rfl)) h0 bel (fun x hx => hlt x (by simp [hx]))) trodAll_mk0), rfl, Below.frame bel _, fun h => by cases h⟩

theorem over : Rows.partsTurnsRow.holds Try.pinned (OpenSpec.ofChange Rows.partsTurnsSpec) :=
  OpenClaim.holds_of_wide 6 Try.f6 rfl rfl rfl rfl rfl rfl rfl ⟨rfl, rfl, rfl, rfl, rfl⟩ rfl rfl rfl rfl rfl (by kernel_rfl) Try.func6 (by kernel_rfl)
    (of_decide_eq_true (by kernel_rfl)) (by unfold Func.isWrapper; first | (rw [if_pos (by decide +kernel)]; kernel_rfl) | (rw [if_neg (by decide +kernel)]; exact ⟨rfl, rfl⟩))
    (fun os started H enc _ => lifted os started H enc)

theorem proved : Rows.PartsTurnsSaid := over
#print axioms proved
end Go.Proofs.Ytlahccmlnbdekaa.partsTurns
