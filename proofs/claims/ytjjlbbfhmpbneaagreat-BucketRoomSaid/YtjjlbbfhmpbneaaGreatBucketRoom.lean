/-
  Proved: whatever bucket, key and octets BucketRoom is called with, it returns true and leaves what it was given as it was. No condition.
-/
import Derived.Test.YtjjlbbfhmpbneaaGreatHz
namespace Go.Proofs.YtjjlbbfhmpbneaaGreat.bucketRoom
set_option maxRecDepth 100000
open Go.ChangeShapes Go.WideShapes Go.ChangeAt Go.RowKit Go.Shelf
open Go.ChangeMaps (open_string shut_string)
set_option linter.unusedVariables false
set_option linter.unusedSimpArgs false

theorem putC_one {s : Int} {x : Ver} {L : List Ver} {e : Nat} (h : PutC [] s x L e) : e ≠ 6 ∧ (e = 0 → L.length = 1 ∧ octV L = x.data.size) := by
  cases h
  case large h => simp at h
  case large0 h => simp [woV] at h
  case on => exact ⟨by omega, fun _ => ⟨rfl, by simp [octV]⟩⟩
  case over => exact ⟨by omega, fun _ => ⟨by simp [woV], by simp [octV, woV, zeroId]⟩⟩
  all_goals exact ⟨by omega, fun h => by omega⟩
theorem putE_len {l : List Ent} {key : ByteArray} {c : List Ver} (h : okI l) : (putE l key c).length ≤ l.length + 1 := by
  have : ∀ l : List Ent, (l.filter (fun e => ltB e.key key)).length + (l.filter (fun e => ltB key e.key)).length ≤ l.length := by
    intro l
    induction l with
    | nil => simp
    | cons y r ih =>
      by_cases h1 : ltB y.key key = true
      · have h2 : ltB key y.key = false := ltB_asymm h1
        rw [List.filter_cons_of_pos (by simpa using h1), List.filter_cons_of_neg (by simp [h2]), List.length_cons, List.length_cons]; omega
      · by_cases h2 : ltB key y.key = true
        · rw [List.filter_cons_of_neg (by simpa using h1), List.filter_cons_of_pos (by simpa using h2), List.length_cons, List.length_cons]; omega
        · rw [List.filter_cons_of_neg (by simpa using h1), List.filter_cons_of_neg (by simpa using h2), List.length_cons]; omega
  have := this l
  rw [putE, List.length_append, List.length_append]
  split <;> simp <;> omega
theorem room_fact {b d : Bkt} {key data : ByteArray} {tm : Int} {n t : Nat} {s : ByteArray} (hb : okB b) (h : FinC b (PutR b key data tm) d n t s 6) (hk : ∀ e ∈ b.L, e.key ≠ key) (hl : b.L.length < 60) (hm : b.last < 281474976710655) : 20000 < octB b + data.size := by
  have hg : getE b.L key = [] := getE_out hk
  have hoct : ∀ (L : List Ver) j M, okP L → PutI b.L key L M j → (j = 6 → False) ∧ (j = 0 → octE M = octE b.L + octV L) := fun L j M hL hP => by
    rcases hP with ⟨-, -, rfl⟩ | ⟨-, ⟨h6, -, rfl⟩ | ⟨-, rfl, rfl⟩⟩
    · exact ⟨by omega, by omega⟩
    · have := putE_len (key := key) (c := L) hb.2.2.2.1
      omega
    · refine ⟨by omega, fun _ => ?_⟩
      have := oct_put hb.2.2.2.1 key L
      rw [hg] at this
      simp [octV] at this
      simpa [octV] using this
  rcases h with ⟨h0, -⟩ | ⟨-, d1, n1, t1, s1, k1, ⟨⟨b1, m1, k2, hgv, hr⟩, -⟩, hk1⟩
  · exact absurd hb h0
  · have hb1 : b1.L = b.L ∧ b1.U = b.U := ⟨(givC_same hgv).1, (givC_same hgv).2.1⟩
    have hk2 : k2 ≠ 6 := by
      rcases hgv with ⟨-, -, -, rfl⟩ | ⟨-, -, -, -, rfl⟩ | ⟨-, -, ⟨h9, -⟩ | ⟨-, -, -, rfl⟩⟩
      · decide
      · decide
      · omega
      · decide
    rcases hr with ⟨hz, -, -, rfl⟩ | ⟨-, -, l, e, hM, hc⟩
    · rcases hk1 with ⟨-, -, h⟩ | ⟨h, h2, -, -⟩ | ⟨-, -, -, h⟩
      · exact absurd h.symm hk2
      · exact absurd h hz
      · omega
    · rw [hb1.1, hg] at hM
      obtain ⟨e6, e0⟩ := putC_one hM
      rcases hc with ⟨hz, -, rfl⟩ | ⟨rfl, M, j, hP, rfl, rfl⟩
      · rcases hk1 with ⟨-, -, h⟩ | ⟨h, -⟩ | ⟨-, -, -, h⟩
        · exact absurd h.symm e6
        · exact absurd h hz
        · omega
      · rw [hb1.1] at hP
        have hok : okP l := putC_ok hM
        obtain ⟨j6, j0⟩ := hoct l _ M hok hP
        rcases hk1 with ⟨-, -, h⟩ | ⟨h, h2, -, -⟩ | ⟨-, -, -, h⟩
        · exact absurd h.symm (fun e => j6 e)
        · have := j0 h
          have h3 := (e0 rfl).2
          have h4 : octB { b1 with L := M } = octE M + sizU b.U := by rw [octB, hb1.2]
          rw [h4] at h2
          rw [octB]
          rw [this, h3] at h2
          have h5 : (⟨m1, data, false, tm⟩ : Ver).data.size = data.size := rfl
          omega
        · omega
set_option maxHeartbeats 16000000 in
set_option maxRecDepth 100000 in
theorem walk (b : Bkt) (lv uv : Value) (key data : ByteArray) (w : World) (hin : InB w b lv uv) (wk : key.size ≤ maxLen) (wd : data.size ≤ maxLen) :
    Calls Tryz.prog 9 #[bkt b lv uv, .string key, .string data] w fun e w' => e = .returned (.bool true) ∧ Q w w' := by
  obtain ⟨hv, hn, hl, hu, -, -, -⟩ := hin
  obtain ⟨A1, c1, rfl⟩ := hv.1.form
  obtain ⟨A2, c2, rfl⟩ := hv.2.form
  have q0 : Q w (w.alloc (.cells (bcl b (.slice A1 b.L.length c1) (.slice A2 b.U.length c2)) 26)) := (Q.refl w).alloc _
  have Z : Hid (BoxB (w.alloc (.cells (bcl b (.slice A1 b.L.length c1) (.slice A2 b.U.length c2)) 26)) w.heap.size b) := Lib.hid (BoxB.new hv)
  have FB := Lib.hid (fewB_any b (.slice A1 b.L.length c1) (.slice A2 b.U.length c2) (w.alloc (.cells (bcl b (.slice A1 b.L.length c1) (.slice A2 b.U.length c2)) 26)) hn hl hu (hv.on q0))
  have FS := Lib.hid fun d => fewS_any key d wk
  obtain ⟨sn, sE, sU⟩ := fewB_small b
  have hks := fewS_size key
  obtain ⟨B, hB⟩ : ∃ B, B = fewB b := ⟨_, rfl⟩
  obtain ⟨ky, hky⟩ : ∃ k, k = fewS key := ⟨_, rfl⟩
  rw [← hB] at FB sn sE sU
  rw [← hky] at FS hks
  simp only [bkt] at FB
  clear hn hl hu hv hB hky wk
  rw [bkt]
  -- what is put
  have rest : ∀ D : ByteArray, D.size ≤ 2000 → ∃ (dd : Bkt) (n k : Nat), (k = 0 → octB dd ≤ 20000 ∧ smE dd.L ∧ smL dd.U) ∧ (∀ x lv uv, BktV x B lv uv → Calls Tryz.prog 28 #[bkt B lv uv, .string ky, .string D, .int .i64 1099511627775] x fun e w' => ∃ A c A' c', e = .returned (.tuple #[bkt dd (.slice A dd.L.length c) (.slice A' dd.U.length c'), .int .u64 (n : Nat), .int .i64 (k : Nat)]) ∧ BktV w' dd (.slice A dd.L.length c) (.slice A' dd.U.length c') ∧ Q x w') ∧
      (k = 6 → okB B → (∀ e ∈ B.L, e.key ≠ ky) → B.L.length < 60 → B.last < 281474976710655 → 20000 < octB B + D.size) := fun D hD => by
    obtain ⟨dd, n, t, s, k, hF⟩ := finC_ex B (R := PutR B ky D 1099511627775) (by obtain ⟨d, m, k, h⟩ := wput_ex B 0 ky D 1099511627775; exact ⟨d, m, 0, noS, k, h, rfl, rfl⟩)
    refine ⟨dd, n, k, fun hk => ?_, fun x lv uv hx => bPut_any B lv uv x ky D 1099511627775 dd n t s k hF sn sE sU (by omega) (by unfold maxLen; omega) (by decide) (by decide) hx, fun h6 hb h1 h2 h3 => room_fact hb (h6 ▸ hF) h1 h2 h3⟩
    subst hk
    have hb : okB B := by
      rcases hF with ⟨-, -, h⟩ | ⟨h, -⟩
      · omega
      · exact h
    have := fin_ok putR_ok hb hF
    exact ⟨this.2.2.2.2.2.2, okQ_small (okB_q.1 this).1⟩
  obtain ⟨R, hR⟩ := chk_ex (okB B)
  have RM := Lib.hid fun x lv uv (hx : BktV x B lv uv) => rmayB_any B lv uv x R hR sn sE sU hx
  have RO := Lib.hid fun x lv uv (hx : BktV x B lv uv) => roctB_any B lv uv x sE sU hx
  have RD := Lib.hid fun dd x lv uv (h1 : smE dd.L) (h2 : smL dd.U) (hx : BktV x dd lv uv) => roctB_any dd lv uv x h1 h2 hx
  have AW := Lib.hid fun x => awakeB_any x
  simp only [bkt] at RM RO RD rest
  have HRR := Lib.hid hR
  have REST := Lib.hid rest
  have hzO : (octB B : Int) ≤ 200000000000 := by have := octE_top sE.1; have := sizU_all sU; unfold octB; omega
  clear hR rest sn sU
  have HSE := Lib.hid sE.1.1
  clear sE
  go_enter Tryz.func9, Tryz.ntmps9
  go_wp2_with fail
  refine (FB.out).mono ?_
  rintro e w1 ⟨A, c, A', c', rfl, v1, q1⟩
  go_wp2_with fail
  refine (FS.out _).mono ?_
  rintro e w2 ⟨rfl, rfl⟩
  obtain ⟨g1, g2, g3, g4, hbb, hvv⟩ := Z.out.on q1
  obtain ⟨k0, k1, k2, k3, k4⟩ := bx_bkt hbb
  obtain ⟨f0, f1, f2, f3, f4⟩ := bkt_frozen hbb
  have hh : BoxB w1 w.heap.size b := ⟨g1, g2, g3, g4, hbb, hvv⟩
  obtain ⟨nB, gk⟩ := hh.store v1
  have nq := gk.q (q0.trans q1) (Nat.le_refl _)
  clear FB FS Z
  go_upto_region 2 with fail
  have K := Lib.hid (And.intro nB nq)
  obtain ⟨x1, hx1⟩ : ∃ x, x = (((((w1.setCell ⟨w.heap.size, 0, none⟩ (.string B.name)).setCell ⟨w.heap.size, 1, none⟩ (.int .i64 B.st)).setCell ⟨w.heap.size, 2, none⟩ (.slice A B.L.length c)).setCell ⟨w.heap.size, 3, none⟩ (.slice A' B.U.length c')).setCell ⟨w.heap.size, 4, none⟩ (.int .u64 (B.last : Nat))) := ⟨_, rfl⟩
  rw [← hx1] at K ⊢
  clear hx1 nB gk nq hh hbb hvv k0 k1 k2 k3 k4 f0 f1 f2 f3 f4 v1
  by_cases hd : 2000 < data.size
  · have hd2 : (2000 : Int) < (data.size : Int) := by omega
    have hd3 : ¬ (data.size : Int) < 2000 := by omega
    obtain ⟨D, hD⟩ : ∃ D, D = data.extract 0 2000 := ⟨_, rfl⟩
    have hDs : D.size ≤ 2000 := by rw [hD, size_cut _ (by omega)]; omega
    have HD := Lib.hid hD
    clear hd wd hD
    go_upto_region 4 with fail
    rw [← HD.out]
    clear HD hd2 hd3
    obtain ⟨dd, n, k, h0, hput, h6⟩ := REST.out D hDs
    have H0 := Lib.hid h0
    have H6 := Lib.hid h6
    have PUT := Lib.hid hput
    clear h0 h6 hput
    obtain ⟨g1, g2, g3, g4, hbb, hvv⟩ := K.out.1
    obtain ⟨k0, k1, k2, k3, k4⟩ := bx_bkt hbb
    have C := Lib.hid (PUT.out _ _ _ hvv)
    clear hbb hvv PUT
    go_wp2_with fail
    refine (C.out).mono ?_
    rintro e w3 ⟨A3, c3, A4, c4, rfl, v3, q3⟩
    have K3 : Hid (BoxB (w3.alloc (.cells #[.string dd.name, .int .i64 dd.st, .slice A3 dd.L.length c3, .slice A4 dd.U.length c4, .int .u64 (dd.last : Nat)] 26)) w3.heap.size dd ∧ BoxB (w3.alloc (.cells #[.string dd.name, .int .i64 dd.st, .slice A3 dd.L.length c3, .slice A4 dd.U.length c4, .int .u64 (dd.last : Nat)] 26)) w.heap.size B ∧ Q w (w3.alloc (.cells #[.string dd.name, .int .i64 dd.st, .slice A3 dd.L.length c3, .slice A4 dd.U.length c4, .int .u64 (dd.last : Nat)] 26))) :=
      Lib.hid ⟨BoxB.new v3, (K.out.1.on q3).on ((Q.refl _).alloc _), (K.out.2.trans q3).alloc _⟩
    clear C v3 k0 k1 k2 k3 k4
    go_upto_region 5 with fail
    obtain ⟨x3, hx3⟩ : ∃ x, x = (w3.alloc (.cells #[.string dd.name, .int .i64 dd.st, .slice A3 dd.L.length c3, .slice A4 dd.U.length c4, .int .u64 (dd.last : Nat)] 26)) := ⟨_, rfl⟩
    rw [← hx3] at K3 ⊢
    clear hx3
    by_cases hk0 : k = 0
    · subst hk0
      obtain ⟨o1, o2, o3⟩ := H0.out rfl
      obtain ⟨g1, g2, g3, g4, hbb, hvv⟩ := K3.out.1
      obtain ⟨k0, k1, k2, k3, k4⟩ := bx_bkt hbb
      have C := Lib.hid (RD.out _ _ _ _ o2 o3 hvv)
      have o4 : ((octB dd : Nat) : Int) ≤ 20000 := by omega
      clear hbb hvv o1 o2 o3
      generalize octB dd = od at C o4
      go_wp2_with fail
      refine (C.out).mono ?_
      rintro e w4 ⟨rfl, q4⟩
      go_wp2_with fail
      refine (AW.out _).mono ?_
      rintro e w5 ⟨rfl, q5⟩
      have nq := (K3.out.2.2.trans q4).trans q5
      go_wp2
      go_ret
      exact ⟨rfl, nq⟩
    · have hk1 : ((k : Int) == 0) = false := by simpa using hk0
      clear hk0
      obtain ⟨g1, g2, g3, g4, hbb, hvv⟩ := K3.out.2.1
      obtain ⟨k0, k1, k2, k3, k4⟩ := bx_bkt hbb
      have C := Lib.hid (RM.out _ _ _ hvv)
      clear hbb hvv
      cases R with
      | false =>
        go_wp2_with fail
        refine (C.out).mono ?_
        rintro e w4 ⟨rfl, q4⟩
        go_wp2_with fail
        refine (AW.out _).mono ?_
        rintro e w5 ⟨rfl, q5⟩
        have nq := (K3.out.2.2.trans q4).trans q5
        go_wp2
        go_ret
        exact ⟨rfl, nq⟩
      | true =>
        have hb : Hid (okB B) := Lib.hid (by rcases HRR.out with ⟨-, h⟩ | ⟨h, -⟩; exact h; simp at h)
        by_cases hk6 : k = 6
        · subst hk6
          go_wp2_with fail
          refine (C.out).mono ?_
          rintro e w4 ⟨rfl, q4⟩
          have K4 := Lib.hid (And.intro (K3.out.2.1.on q4) (K3.out.2.2.trans q4))
          clear C k0 k1 k2 k3 k4 K3 K hk1
          go_wp2_with fail
          go_loopw [10] (fun I wr => ∃ i : Nat, i ≤ B.L.length ∧ I = .int .i64 i ∧ wr = w4 ∧ Hid (∀ j (hj : j < B.L.length), j < i → B.L[j].key ≠ ky)) (fun I _ => B.L.length - (intOf I).toNat)
          case atStart => exact ⟨0, Nat.zero_le _, rfl, rfl, Lib.hid (fun j _ h => by omega)⟩
          case round =>
            obtain ⟨i, hil, rfl, rfl, HK⟩ := hrel
            obtain ⟨g1, g2, g3, g4, hbb, hvv⟩ := K4.out.1
            obtain ⟨k0, k1, k2, k3, k4⟩ := bx_bkt hbb
            have hl1000 := HSE.out
            by_cases hlt : i < B.L.length
            · obtain ⟨a, c', hv, ha, A5, c5, hvs, hat⟩ := hvv.1.pick i hlt
              injection hv with e1 e2 e3
              subst e1 e3
              obtain ⟨d0, d1⟩ := hat _ (Q.refl _)
              have hilt : (i : Int) < (B.L.length : Int) := by omega
              by_cases he : B.L[i].key = ky
              · rw [he] at d0
                clear hbb hvv hvs hat he
                go_wp2_with fail
                refine (AW.out _).mono ?_
                rintro e w5 ⟨rfl, q5⟩
                have nq := K4.out.2.trans q5
                go_wp2
                go_ret
                exact ⟨rfl, nq⟩
              · have HX : Hid (∀ j (hj : j < B.L.length), j < i + 1 → B.L[j].key ≠ ky) := Lib.hid fun j hj hji => by
                  by_cases e : j = i
                  · subst e; exact he
                  · exact HK.out j hj (by omega)
                obtain ⟨z, hz⟩ : ∃ z, z = B.L[i].key := ⟨_, rfl⟩
                rw [← hz] at d0 he
                have he2 : (z.toList == ky.toList) = false := by rw [eq_texts]; simpa using he
                clear hbb hvv hvs hat he hz
                go_wp2
                go_roundw
                case rel => exact ⟨i + 1, by omega, by go_num, by first | rfl | trivial, HX⟩
                case measure => simp [intOf]; omega
            · have hilt : ¬ (i : Int) < (B.L.length : Int) := by omega
              have HA : Hid (∀ e ∈ B.L, e.key ≠ ky) := Lib.hid fun e he => by
                obtain ⟨j, hj, rfl⟩ := List.getElem_of_mem he
                exact HK.out j hj (by omega)
              by_cases h60 : B.L.length < 60
              · have j60 : (B.L.length : Int) < 60 := by omega
                by_cases hlast : B.last < 281474976710655
                · have jl : (B.last : Int) < 281474976710655 := by omega
                  have hbig := H6.out trivial hb.out HA.out h60 hlast
                  have jb : (20000 : Int) < ((octB B : Nat) : Int) + ((D.size : Nat) : Int) := by omega
                  have jd : (D.size : Int) ≤ 2000 := by omega
                  have C := Lib.hid (RO.out _ _ _ hvv)
                  clear hbb hvv h60 hlast hbig
                  generalize octB B = od at *
                  go_wp2_with fail
                  refine (C.out).mono ?_
                  rintro e w5 ⟨rfl, q5⟩
                  go_wp2_with fail
                  refine (AW.out _).mono ?_
                  rintro e w6 ⟨rfl, q6⟩
                  have nq := (K4.out.2.trans q5).trans q6
                  go_wp2
                  go_ret
                  exact ⟨rfl, nq⟩
                · have jl : ¬ (B.last : Int) < 281474976710655 := by omega
                  clear hbb hvv h60 hlast
                  go_wp2_with fail
                  refine (AW.out _).mono ?_
                  rintro e w6 ⟨rfl, q6⟩
                  have nq := K4.out.2.trans q6
                  go_wp2
                  go_ret
                  exact ⟨rfl, nq⟩
              · have j60 : ¬ (B.L.length : Int) < 60 := by omega
                clear hbb hvv h60
                go_wp2_with fail
                refine (AW.out _).mono ?_
                rintro e w6 ⟨rfl, q6⟩
                have nq := K4.out.2.trans q6
                go_wp2
                go_ret
                exact ⟨rfl, nq⟩
        · have hk6' : ((k : Int) != 6) = true := by simp; omega
          clear hk6
          go_wp2_with fail
          refine (C.out).mono ?_
          rintro e w4 ⟨rfl, q4⟩
          go_wp2_with fail
          refine (AW.out _).mono ?_
          rintro e w5 ⟨rfl, q5⟩
          have nq := (K3.out.2.2.trans q4).trans q5
          go_wp2
          go_ret
          exact ⟨rfl, nq⟩

  · have hd2 : ¬ (2000 : Int) < (data.size : Int) := by omega
    obtain ⟨D, hD⟩ : ∃ D, D = data := ⟨_, rfl⟩
    rw [← hD] at hd2 hd ⊢
    have hDs : D.size ≤ 2000 := by omega
    clear hd wd hD
    go_upto_region 4 with fail
    clear hd2
    obtain ⟨dd, n, k, h0, hput, h6⟩ := REST.out D hDs
    have H0 := Lib.hid h0
    have H6 := Lib.hid h6
    have PUT := Lib.hid hput
    clear h0 h6 hput
    obtain ⟨g1, g2, g3, g4, hbb, hvv⟩ := K.out.1
    obtain ⟨k0, k1, k2, k3, k4⟩ := bx_bkt hbb
    have C := Lib.hid (PUT.out _ _ _ hvv)
    clear hbb hvv PUT
    go_wp2_with fail
    refine (C.out).mono ?_
    rintro e w3 ⟨A3, c3, A4, c4, rfl, v3, q3⟩
    have K3 : Hid (BoxB (w3.alloc (.cells #[.string dd.name, .int .i64 dd.st, .slice A3 dd.L.length c3, .slice A4 dd.U.length c4, .int .u64 (dd.last : Nat)] 26)) w3.heap.size dd ∧ BoxB (w3.alloc (.cells #[.string dd.name, .int .i64 dd.st, .slice A3 dd.L.length c3, .slice A4 dd.U.length c4, .int .u64 (dd.last : Nat)] 26)) w.heap.size B ∧ Q w (w3.alloc (.cells #[.string dd.name, .int .i64 dd.st, .slice A3 dd.L.length c3, .slice A4 dd.U.length c4, .int .u64 (dd.last : Nat)] 26))) :=
      Lib.hid ⟨BoxB.new v3, (K.out.1.on q3).on ((Q.refl _).alloc _), (K.out.2.trans q3).alloc _⟩
    clear C v3 k0 k1 k2 k3 k4
    go_upto_region 5 with fail
    obtain ⟨x3, hx3⟩ : ∃ x, x = (w3.alloc (.cells #[.string dd.name, .int .i64 dd.st, .slice A3 dd.L.length c3, .slice A4 dd.U.length c4, .int .u64 (dd.last : Nat)] 26)) := ⟨_, rfl⟩
    rw [← hx3] at K3 ⊢
    clear hx3
    by_cases hk0 : k = 0
    · subst hk0
      obtain ⟨o1, o2, o3⟩ := H0.out rfl
      obtain ⟨g1, g2, g3, g4, hbb, hvv⟩ := K3.out.1
      obtain ⟨k0, k1, k2, k3, k4⟩ := bx_bkt hbb
      have C := Lib.hid (RD.out _ _ _ _ o2 o3 hvv)
      have o4 : ((octB dd : Nat) : Int) ≤ 20000 := by omega
      clear hbb hvv o1 o2 o3
      generalize octB dd = od at C o4
      go_wp2_with fail
      refine (C.out).mono ?_
      rintro e w4 ⟨rfl, q4⟩
      go_wp2_with fail
      refine (AW.out _).mono ?_
      rintro e w5 ⟨rfl, q5⟩
      have nq := (K3.out.2.2.trans q4).trans q5
      go_wp2
      go_ret
      exact ⟨rfl, nq⟩
    · have hk1 : ((k : Int) == 0) = false := by simpa using hk0
      clear hk0
      obtain ⟨g1, g2, g3, g4, hbb, hvv⟩ := K3.out.2.1
      obtain ⟨k0, k1, k2, k3, k4⟩ := bx_bkt hbb
      have C := Lib.hid (RM.out _ _ _ hvv)
      clear hbb hvv
      cases R with
      | false =>
        go_wp2_with fail
        refine (C.out).mono ?_
        rintro e w4 ⟨rfl, q4⟩
        go_wp2_with fail
        refine (AW.out _).mono ?_
        rintro e w5 ⟨rfl, q5⟩
        have nq := (K3.out.2.2.trans q4).trans q5
        go_wp2
        go_ret
        exact ⟨rfl, nq⟩
      | true =>
        have hb : Hid (okB B) := Lib.hid (by rcases HRR.out with ⟨-, h⟩ | ⟨h, -⟩; exact h; simp at h)
        by_cases hk6 : k = 6
        · subst hk6
          go_wp2_with fail
          refine (C.out).mono ?_
          rintro e w4 ⟨rfl, q4⟩
          have K4 := Lib.hid (And.intro (K3.out.2.1.on q4) (K3.out.2.2.trans q4))
          clear C k0 k1 k2 k3 k4 K3 K hk1
          go_wp2_with fail
          go_loopw [10] (fun I wr => ∃ i : Nat, i ≤ B.L.length ∧ I = .int .i64 i ∧ wr = w4 ∧ Hid (∀ j (hj : j < B.L.length), j < i → B.L[j].key ≠ ky)) (fun I _ => B.L.length - (intOf I).toNat)
          case atStart => exact ⟨0, Nat.zero_le _, rfl, rfl, Lib.hid (fun j _ h => by omega)⟩
          case round =>
            obtain ⟨i, hil, rfl, rfl, HK⟩ := hrel
            obtain ⟨g1, g2, g3, g4, hbb, hvv⟩ := K4.out.1
            obtain ⟨k0, k1, k2, k3, k4⟩ := bx_bkt hbb
            have hl1000 := HSE.out
            by_cases hlt : i < B.L.length
            · obtain ⟨a, c', hv, ha, A5, c5, hvs, hat⟩ := hvv.1.pick i hlt
              injection hv with e1 e2 e3
              subst e1 e3
              obtain ⟨d0, d1⟩ := hat _ (Q.refl _)
              have hilt : (i : Int) < (B.L.length : Int) := by omega
              by_cases he : B.L[i].key = ky
              · rw [he] at d0
                clear hbb hvv hvs hat he
                go_wp2_with fail
                refine (AW.out _).mono ?_
                rintro e w5 ⟨rfl, q5⟩
                have nq := K4.out.2.trans q5
                go_wp2
                go_ret
                exact ⟨rfl, nq⟩
              · have HX : Hid (∀ j (hj : j < B.L.length), j < i + 1 → B.L[j].key ≠ ky) := Lib.hid fun j hj hji => by
                  by_cases e : j = i
                  · subst e; exact he
                  · exact HK.out j hj (by omega)
                obtain ⟨z, hz⟩ : ∃ z, z = B.L[i].key := ⟨_, rfl⟩
                rw [← hz] at d0 he
                have he2 : (z.toList == ky.toList) = false := by rw [eq_texts]; simpa using he
                clear hbb hvv hvs hat he hz
                go_wp2
                go_roundw
                case rel => exact ⟨i + 1, by omega, by go_num, by first | rfl | trivial, HX⟩
                case measure => simp [intOf]; omega
            · have hilt : ¬ (i : Int) < (B.L.length : Int) := by omega
              have HA : Hid (∀ e ∈ B.L, e.key ≠ ky) := Lib.hid fun e he => by
                obtain ⟨j, hj, rfl⟩ := List.getElem_of_mem he
                exact HK.out j hj (by omega)
              by_cases h60 : B.L.length < 60
              · have j60 : (B.L.length : Int) < 60 := by omega
                by_cases hlast : B.last < 281474976710655
                · have jl : (B.last : Int) < 281474976710655 := by omega
                  have hbig := H6.out trivial hb.out HA.out h60 hlast
                  have jb : (20000 : Int) < ((octB B : Nat) : Int) + ((D.size : Nat) : Int) := by omega
                  have jd : (D.size : Int) ≤ 2000 := by omega
                  have C := Lib.hid (RO.out _ _ _ hvv)
                  clear hbb hvv h60 hlast hbig
                  generalize octB B = od at *
                  go_wp2_with fail
                  refine (C.out).mono ?_
                  rintro e w5 ⟨rfl, q5⟩
                  go_wp2_with fail
                  refine (AW.out _).mono ?_
                  rintro e w6 ⟨rfl, q6⟩
                  have nq := (K4.out.2.trans q5).trans q6
                  go_wp2
                  go_ret
                  exact ⟨rfl, nq⟩
                · have jl : ¬ (B.last : Int) < 281474976710655 := by omega
                  clear hbb hvv h60 hlast
                  go_wp2_with fail
                  refine (AW.out _).mono ?_
                  rintro e w6 ⟨rfl, q6⟩
                  have nq := K4.out.2.trans q6
                  go_wp2
                  go_ret
                  exact ⟨rfl, nq⟩
              · have j60 : ¬ (B.L.length : Int) < 60 := by omega
                clear hbb hvv h60
                go_wp2_with fail
                refine (AW.out _).mono ?_
                rintro e w6 ⟨rfl, q6⟩
                have nq := K4.out.2.trans q6
                go_wp2
                go_ret
                exact ⟨rfl, nq⟩
        · have hk6' : ((k : Int) != 6) = true := by simp; omega
          clear hk6
          go_wp2_with fail
          refine (C.out).mono ?_
          rintro e w4 ⟨rfl, q4⟩
          go_wp2_with fail
          refine (AW.out _).mono ?_
          rintro e w5 ⟨rfl, q5⟩
          have nq := (K3.out.2.2.trans q4).trans q5
          go_wp2
          go_ret
          exact ⟨rfl, nq⟩


set_option maxRecDepth 100000 in
theorem lifted (os : Os) (started : os.Started) (H : Type) (enc : TypeId × Value → H) :
    ReturnsInHanded {} Tryz.checked os 9 .any (Rows.bucketRoomSpec.pre6 enc Tryz.prog Tryz.f9 Rows.bucketRoomRow.domain false) (Rows.bucketRoomSpec.post enc Tryz.prog Tryz.f9 false true false false) := by
  refine returnsInHanded_of_change (C := Tryz.checked) own started (by kernel_rfl) Tryz.func9
    (ChangeSpec.witness6 (enc := enc) (C := Tryz.checked) false ⟨#[], #[.agg #[.string ByteArray.empty, .int .i64 0, .slice none 0 0, .slice none 0 0, .int .u64 0], .string ByteArray.empty, .string ByteArray.empty], []⟩ 8 (by kernel_rfl) (by kernel_rfl) (by kernel_rfl) (by kernel_rfl)) ?_
  intro W base args ds gs before hval0 hW hcnd _
  have hval : ∀ (j : Nat) t v, Tryz.f9.params[j]? = some t → args[j]? = some v → Value.okWide Tryz.prog W .any base t v := hval0
  have hW' := hW
  obtain ⟨p, q, hA0, hV, rfl, hfz, hnd⟩ := hW
  have hA : DataW.TrodAll enc Tryz.prog W 0 (fun _ => true) true Tryz.f9.params.toList args.toList ds p := hA0
  rw [Tryz.params9] at hA hval
  obtain ⟨v0, vs0, d0, ds0, p0, q0, hargs, rfl, rfl, h0, r0⟩ := trodAll_cons hA
  obtain ⟨v1, vs1, d1, ds1, p1, q1, rfl, rfl, rfl, h1, r1⟩ := trodAll_cons r0
  obtain ⟨v2, vs2, d2, ds2, p2, q2, rfl, rfl, rfl, h2, r2⟩ := trodAll_cons r1
  obtain ⟨rfl, rfl, rfl⟩ := trodAll_nil r2
  obtain rfl : args = #[v0, v1, v2] := by cases args; simp_all
  obtain ⟨rfl, rfl⟩ := trodVars_none hV
  clear hA0 hval0
  simp only [List.append_nil] at hW'
  have hlt : ∀ x ∈ p0 ++ p1 ++ p2, x.block < W.heap.size := fun x hx => by simpa using hW'.lt x (by simpa using hx)
  obtain ⟨b0, lv0, uv0, rfl, t0⟩ := open_bkt (hval 0 26 v0 rfl rfl) h0
  obtain ⟨a1, rfl, -, -, w1⟩ := open_string Tryz.underlying9 (hval 1 9 v1 rfl rfl) h1
  obtain ⟨a2, rfl, -, -, w2⟩ := open_string Tryz.underlying9 (hval 2 9 v2 rfl rfl) h2
  refine (walk b0 lv0 uv0 a1 a2 W t0 w1 w2).mono fun e W' ⟨he, bel⟩ => ?_
  subst he
  refine ⟨_, rfl, _, _, _, [], _, [], hW', trodAll_mk1 (shut_bool Tryz.underlying4 _), (trodAll_cons_mk (Below.trod laid (by kernel_rfl) (of_decide_eq_true (by kernel_rfl)) h0 bel (fun x hx => hlt x (by simp [hx]))) (trodAll_cons_mk (Below.trod laid (by kernel_rfl) (of_decide_eq_true (by kernel_rfl)) h1 bel (fun x hx => hlt x (by simp [hx]))) (trodAll_cons_mk (Below.trod laid (by kernel_rfl) (of_decide_eq_true (by kernel_rfl)) h2 bel (fun x hx => hlt x (by simp [hx]))) trodAll_mk0))), rfl, Below.frame bel _, fun h => by cases h⟩

theorem over : Rows.bucketRoomRow.holds Tryz.pinned (OpenSpec.ofChange Rows.bucketRoomSpec) :=
  OpenClaim.holds_of_wide 9 Tryz.f9 rfl rfl rfl rfl rfl rfl rfl ⟨rfl, rfl, rfl, rfl, rfl⟩ rfl rfl rfl rfl rfl (by kernel_rfl) Tryz.func9 (by kernel_rfl)
    (of_decide_eq_true (by kernel_rfl)) (by unfold Func.isWrapper; first | (rw [if_pos (by decide +kernel)]; kernel_rfl) | (rw [if_neg (by decide +kernel)]; exact ⟨rfl, rfl⟩))
    (fun os started H enc _ => lifted os started H enc)

theorem proved : Rows.BucketRoomSaid := over
#print axioms proved
end Go.Proofs.YtjjlbbfhmpbneaaGreat.bucketRoom
