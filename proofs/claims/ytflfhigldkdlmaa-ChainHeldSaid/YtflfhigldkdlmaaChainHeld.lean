/-
  Proved: whatever chain and version ChainHeld is called with, it returns true and leaves what it was given as it was. No condition.
-/
import Derived.Test.YtflfhigldkdlmaaVBlk
import Derived.Deep.DeepCutAuto
import Derived.Deep.RegionHeld3
namespace Go.Proofs.Ytflfhigldkdlmaa.chainHeld
open Go.ChangeShapes Go.WideShapes Go.ChangeAt Go.RowKit
open Go.ChangeMaps (open_string shut_string)
set_option linter.unusedVariables false
set_option linter.unusedSimpArgs false

theorem wo_split {l : List Ver} {i : Nat} (h : i < l.length) (k : l[i].id ≠ 0) : woV l 0 = woV (l.take i) 0 ++ l[i] :: woV (l.drop (i + 1)) 0 := by
  have e : l = l.take i ++ l[i] :: l.drop (i + 1) := by rw [List.getElem_cons_drop, List.take_append_drop]
  have h3 : ∀ y : Ver, y = l[i] → woV (l.take i ++ y :: l.drop (i + 1)) 0 = woV (l.take i) 0 ++ y :: woV (l.drop (i + 1)) 0 := by
    intro y hy
    unfold woV
    rw [List.filter_append, List.filter_cons_of_pos (by simpa [hy] using k)]
  exact (congrArg (fun m => woV m 0) e).trans (h3 _ rfl)
theorem held_at {l : List Ver} {i : Nat} (x : Ver) (h : i < l.length) (k : l[i].id ≠ 0) : ∃ j : 1 + (woV (l.take i) 0).length < (x :: woV l 0).length, (x :: woV l 0)[1 + (woV (l.take i) 0).length] = l[i] := by
  have e := wo_split h k
  have hl : 1 + (woV (l.take i) 0).length < (x :: woV l 0).length := by rw [e]; simp; omega
  refine ⟨hl, ?_⟩
  have : (x :: woV l 0)[1 + (woV (l.take i) 0).length]? = some l[i] := by
    rw [Nat.add_comm, List.getElem?_cons_succ, e, List.getElem?_append_right (Nat.le_refl _)]
    simp
  rw [List.getElem?_eq_getElem hl] at this
  exact Option.some.inj this
theorem held_cases {l L : List Ver} {y : Ver} {c : Nat} (h : PutC l 2 y L c) : (L = [] ∧ c ≠ 0) ∨ (L = zeroId y :: woV l 0 ∧ c = 0) := by
  cases h with
  | over h1 h2 h3 h4 h5 => exact .inr ⟨rfl, rfl⟩
  | on h1 h2 => omega
  | _ => exact .inl ⟨rfl, by omega⟩
set_option maxHeartbeats 4000000 in
set_option maxRecDepth 100000 in
theorem walk (l : List Ver) (v : Value) (x : Ver) (w : World) (t0 : Vers w w.heap.size v l) (z0 : l.length ≤ maxLen) (ux : okV x) :
    Calls Try.prog 9 #[v, ver x] w fun e w' => e = .returned (.bool true) ∧ Q w w' := by
  obtain ⟨L, hL, hlen, hfew, hok, -⟩ := few_all l v w z0 t0
  have OK := Lib.hid hok
  have T0 : Hid (Vers w w.heap.size v l) := Lib.hid t0
  have FW : Hid (∀ b (hu : Vers b b.heap.size v l), Calls Try.prog 10 #[v] b fun e w' => ∃ v', e = .returned v' ∧ OwnV b.heap.size w' v' L ∧ Q b w') := Lib.hid (fun b hu => by rw [hL]; exact few_any l v b z0 hu)
  have ON := Lib.hid (fun b => one_any x b ux)
  have hy := oneV_ok ux
  obtain ⟨y, hyd⟩ : ∃ y, y = oneV x := ⟨_, rfl⟩
  rw [← hyd] at ON hy
  rw [ver, ver] at ON
  have qa : Q w (w.alloc (.cells #[.int .u64 (x.id : Nat), .string x.data, .bool x.mark, .int .i64 x.tm] 25)) := (Q.refl w).alloc _
  obtain ⟨PL, pc, hP⟩ := putC_ex L 2 y
  have HPL := Lib.hid (putC_okV hP hok hy)
  have PU : Hid (∀ (b : World) (u : Value) (hu : Vers b b.heap.size u L), Calls Try.prog 12 #[u, .int .i64 2, .agg #[.int .u64 (y.id : Nat), .string y.data, .bool y.mark, .int .i64 y.tm]] b fun e w' => ∃ v', e = .returned (.tuple #[v', .int .i64 (pc : Nat)]) ∧ OwnV b.heap.size w' v' PL ∧ Q b w') := Lib.hid (fun b u hu => put_any L u 2 y b PL pc hP (by omega) hy hu)
  have HC := held_cases hP
  clear hP hok hfew hL t0 hyd
  rw [ver]
  go_enter Try.func9, Try.ntmps9
  go_upto_region 1 with fail
  go_cut [0] from 9 to 12 (fun V wx => OwnV (w.heap.size + 1) wx V L ∧ wx.heap[w.heap.size]? = some (.cells #[.int .u64 (y.id : Nat), .string y.data, .bool y.mark, .int .i64 y.tm] 25) ∧ Q w wx)
  case first =>
    refine wp_region_held_drew (S := (fun w' => Q w w')) (by kernel_rfl) (Q.drew qa) (fun hHeld => ?_)
    refine wpAnyH_take (i := 0) (oi := _) (v := ?_) rfl (by kernel_rfl) (by kernel_rfl) (by kernel_rfl) (fun _ _ _ h => h) (Or.inl ⟨by rfl, ?_⟩) (by assumption) ?_
    rotate_left
    · (intro wx hSw; (try dsimp only at hSw); go_simp; (try with_reducible rfl))
    (try simp only [Act.put, List.getElem_toArray, List.getElem_cons_zero, List.getElem_cons_succ, List.setIfInBounds_toArray, List.set_cons_zero, List.set_cons_succ])
    refine wpAnyH_ready (rs := [1, 2]) (by kernel_rfl) (by simp) ?_
    refine AllReadyH.cons (o := _) rfl (fun K hK => ?_) (AllReadyH.cons (o := _) rfl (fun K hK => ?_) AllReadyH.nil)
    · go_simp
      go_at_call 10
      refine (FW.out _ (T0.out.on (Q.drew qa))).mono ?_
      rintro e wa ⟨v1, rfl, o1, qf⟩
      have qx := (Q.drew (Q.refl _)).trans qf
      obtain ⟨b0, b1, b2, b3⟩ := box_of qx
      refine hK.out _ _ (qa.trans qx) (fun hHeld => ?_)
      clear hK K
      (try simp only [Act.put, List.getElem_toArray, List.getElem_cons_zero, List.getElem_cons_succ, List.setIfInBounds_toArray, List.set_cons_zero, List.set_cons_succ])
      refine wpAnyH_ready (rs := [2]) (by kernel_rfl) (by simp) ?_
      refine AllReadyH.cons (o := _) rfl (fun K hK => ?_) AllReadyH.nil
      go_simp
      refine hK.out _ _ (qa.trans qx) (fun hHeld => ?_)
      clear hK K
      (try simp only [Act.put, List.getElem_toArray, List.getElem_cons_zero, List.getElem_cons_succ, List.setIfInBounds_toArray, List.set_cons_zero, List.set_cons_succ])
      clear b0 b1 b2 b3
      refine wpAnyH_ready (rs := [3]) (by kernel_rfl) (by simp) ?_
      refine AllReadyH.cons (o := _) rfl (fun K hK => ?_) AllReadyH.nil
      go_simp
      go_at_call 11
      refine (ON.out _).mono ?_
      rintro e wb ⟨rfl, qo⟩
      refine hK.out _ _ (qa.trans (qx.trans qo)) (fun hHeld => ?_)
      clear hK K
      (try simp only [Act.put, List.getElem_toArray, List.getElem_cons_zero, List.getElem_cons_succ, List.setIfInBounds_toArray, List.set_cons_zero, List.set_cons_succ])
      refine wpAnyH_take (i := 4) (oi := _) (v := ?_) rfl (by kernel_rfl) (by kernel_rfl) (by kernel_rfl) (fun _ _ _ h => h) (Or.inl ⟨by rfl, ?_⟩) (by assumption) ?_
      rotate_left
      · (intro wx hSw; (try dsimp only at hSw); go_simp; (try with_reducible rfl))
      (try simp only [Act.put, List.getElem_toArray, List.getElem_cons_zero, List.getElem_cons_succ, List.setIfInBounds_toArray, List.set_cons_zero, List.set_cons_succ])
      obtain ⟨b0, b1, b2, b3⟩ := box_of (qx.trans qo)
      obtain ⟨f0, f1, f2, f3⟩ := box_free (qx.trans qo)
      refine wpAnyH_ready (rs := [5]) (by kernel_rfl) (by simp) ?_
      refine AllReadyH.cons (o := _) rfl (fun K hK => ?_) AllReadyH.nil
      go_simp
      refine hK.out _ _ (((((qa.trans (qx.trans qo)).set (Nat.le_refl _) _).set (Nat.le_refl _) _).set (Nat.le_refl _) _).set (Nat.le_refl _) _) (fun hHeld => ?_)
      clear hK K
      (try simp only [Act.put, List.getElem_toArray, List.getElem_cons_zero, List.getElem_cons_succ, List.setIfInBounds_toArray, List.set_cons_zero, List.set_cons_succ])
      refine wpAnyH_done (by kernel_rfl) ?_ _
      go_wp2_with fail
      go_meet
      exact ⟨OwnV.lower (((((OwnV.on o1 qo).setAt (by simp)).setAt (by simp)).setAt (by simp)).setAt (by simp)) (by simp), blk_set (blk_of (qx.trans qo)), ((((qa.trans (qx.trans qo)).set (Nat.le_refl _) _).set (Nat.le_refl _) _).set (Nat.le_refl _) _).set (Nat.le_refl _) _⟩
    · go_simp
      refine hK.out _ _ (Q.drew qa) (fun hHeld => ?_)
      clear hK K
      (try simp only [Act.put, List.getElem_toArray, List.getElem_cons_zero, List.getElem_cons_succ, List.setIfInBounds_toArray, List.set_cons_zero, List.set_cons_succ])
      refine wpAnyH_ready (rs := [1]) (by kernel_rfl) (by simp) ?_
      refine AllReadyH.cons (o := _) rfl (fun K hK => ?_) AllReadyH.nil
      go_simp
      go_at_call 10
      refine (FW.out _ (T0.out.on (Q.drew qa))).mono ?_
      rintro e wa ⟨v1, rfl, o1, qf⟩
      have qx := (Q.drew (Q.refl _)).trans qf
      refine hK.out _ _ (qa.trans qx) (fun hHeld => ?_)
      clear hK K
      (try simp only [Act.put, List.getElem_toArray, List.getElem_cons_zero, List.getElem_cons_succ, List.setIfInBounds_toArray, List.set_cons_zero, List.set_cons_succ])
      refine wpAnyH_ready (rs := [3]) (by kernel_rfl) (by simp) ?_
      refine AllReadyH.cons (o := _) rfl (fun K hK => ?_) AllReadyH.nil
      go_simp
      go_at_call 11
      refine (ON.out _).mono ?_
      rintro e wb ⟨rfl, qo⟩
      refine hK.out _ _ (qa.trans (qx.trans qo)) (fun hHeld => ?_)
      clear hK K
      (try simp only [Act.put, List.getElem_toArray, List.getElem_cons_zero, List.getElem_cons_succ, List.setIfInBounds_toArray, List.set_cons_zero, List.set_cons_succ])
      refine wpAnyH_take (i := 4) (oi := _) (v := ?_) rfl (by kernel_rfl) (by kernel_rfl) (by kernel_rfl) (fun _ _ _ h => h) (Or.inl ⟨by rfl, ?_⟩) (by assumption) ?_
      rotate_left
      · (intro wx hSw; (try dsimp only at hSw); go_simp; (try with_reducible rfl))
      (try simp only [Act.put, List.getElem_toArray, List.getElem_cons_zero, List.getElem_cons_succ, List.setIfInBounds_toArray, List.set_cons_zero, List.set_cons_succ])
      obtain ⟨b0, b1, b2, b3⟩ := box_of (qx.trans qo)
      obtain ⟨f0, f1, f2, f3⟩ := box_free (qx.trans qo)
      refine wpAnyH_ready (rs := [5]) (by kernel_rfl) (by simp) ?_
      refine AllReadyH.cons (o := _) rfl (fun K hK => ?_) AllReadyH.nil
      go_simp
      refine hK.out _ _ (((((qa.trans (qx.trans qo)).set (Nat.le_refl _) _).set (Nat.le_refl _) _).set (Nat.le_refl _) _).set (Nat.le_refl _) _) (fun hHeld => ?_)
      clear hK K
      (try simp only [Act.put, List.getElem_toArray, List.getElem_cons_zero, List.getElem_cons_succ, List.setIfInBounds_toArray, List.set_cons_zero, List.set_cons_succ])
      refine wpAnyH_done (by kernel_rfl) ?_ _
      go_wp2_with fail
      go_meet
      exact ⟨OwnV.lower (((((OwnV.on o1 qo).setAt (by simp)).setAt (by simp)).setAt (by simp)).setAt (by simp)) (by simp), blk_set (blk_of (qx.trans qo)), ((((qa.trans (qx.trans qo)).set (Nat.le_refl _) _).set (Nat.le_refl _) _).set (Nat.le_refl _) _).set (Nat.le_refl _) _⟩
  case rest =>
  rename_i V0 wc
  obtain ⟨t1, hb, qc⟩ := hcut
  have t1 := Lib.hid t1
  have T1 := Lib.hid (t1.out.vers OK.out)
  have hsz : w.heap.size < wc.heap.size := lt_of_block hb
  have HB := Lib.hid hb
  clear FW ON T0 hb
  obtain ⟨b0, b1, b2, b3⟩ := blk_cell HB.out (Q.refl _)
  go_wp2_with fail
  refine (PU.out _ _ T1.out).mono ?_
  rintro e w1 ⟨u2, rfl, o2, q1⟩
  clear b0 b1 b2 b3 PU
  rcases HC with ⟨rfl, hc⟩ | ⟨rfl, rfl⟩
  · obtain ⟨A2, c2, rfl⟩ := own_len o2
    have hcb : ((pc : Int) == 0) = false := by
      have : ¬ (pc : Int) = 0 := by omega
      simpa using this
    have hcn : ((pc : Int) != 0) = true := by simp [bne, hcb]
    simp only [List.length_nil]
    go_wp2_with fail
    refine (awake_any _).mono ?_
    rintro e w9 ⟨rfl, q9⟩
    go_wp2
    go_ret
    exact ⟨rfl, (qc.trans q1).trans q9⟩
  · have hb1 : w1.heap[w.heap.size]? = _ := (Below.block q1 _ hsz).trans HB.out
    obtain ⟨b0, b1, b2, b3⟩ := blk_cell hb1 (Q.refl _)
    obtain ⟨f0, f1, f2, f3⟩ := blk_free hb1 (Q.refl _)
    have hb2 := blk_step (k := 0) (u := .int .u64 0) hb1
    have B2 := Lib.hid (fun b (q : Q (w1.setCell ⟨w.heap.size, 0, none⟩ (.int .u64 0)) b) => blk_cell (i := 0) (d := y.data) (m := y.mark) (t := y.tm) hb2 q)
    have t2 := (o2.setAt (k := 0) (u := .int .u64 0) hsz).vers HPL.out
    have t3 := ((OwnV.on t1.out q1).setAt (k := 0) (u := .int .u64 0) (Nat.lt_succ_self _)).vers OK.out
    have qs : Q w (w1.setCell ⟨w.heap.size, 0, none⟩ (.int .u64 0)) := (qc.trans q1).set (Nat.le_refl _) _
    obtain ⟨A2, c2, rfl, -, -, -, h2⟩ := t2
    obtain ⟨A3, c3, rfl, -, -, -, h3⟩ := t3
    obtain ⟨a2, rfl, ha0, hat0⟩ := h2 0 (by simp)
    rw [Nat.zero_mul, show a2.add 0 = a2 by cases a2; simp [Addr.add], List.getElem_cons_zero] at hat0
    have H2 := Lib.hid h2
    have H3 := Lib.hid h3
    have HH : Hid (∀ i (h : i < L.length), L[i].id ≠ 0 → ∃ j : 1 + (woV (L.take i) 0).length < (zeroId y :: woV L 0).length, (zeroId y :: woV L 0)[1 + (woV (L.take i) 0).length] = L[i]) := Lib.hid (fun i h k => held_at (zeroId y) h k)
    have HE : Hid ((zeroId y :: woV L 0).length = 1 + (woV (L.take L.length) 0).length) := Lib.hid (by rw [List.take_length, List.length_cons, Nat.add_comm])
    clear h2 h3 hb1 hb2 o2 T1
    generalize hNL : zeroId y :: woV L 0 = NL at H2 HH HE ⊢
    have hn0 : 0 < NL.length := by rw [← hNL]; simp
    have hn1 : (0 : Int) < (NL.length : Int) := by omega
    have hn2 : ((NL.length : Int) == 0) = false := by
      have : ¬ (NL.length : Int) = 0 := by omega
      simpa using this
    clear hNL HPL
    go_wp2_with fail
    obtain ⟨e0, e1, e2, e3⟩ := B2.out _ (Q.refl _)
    obtain ⟨g0, g1, g2, g3⟩ := hat0
    simp only [zeroId, Int.ofNat_zero, Int.natCast_zero] at g0 g1 g2 g3
    clear b0 b1 b2 b3 f0 f1 f2 f3
    go_quiet (fail)
    clear e0 e1 e2 e3 g0 g1 g2 g3
    go_wp2_with fail
    go_loopw [7, 8] (fun K I wr => ∃ i k : Nat, i ≤ L.length ∧ Hid (k = 1 + (woV (L.take i) 0).length) ∧ k ≤ 100 ∧ K = .int .i64 k ∧ I = .int .i64 i ∧ Q (w1.setCell ⟨w.heap.size, 0, none⟩ (.int .u64 0)) wr) (fun _ I _ => L.length - (intOf I).toNat)
    case atStart => exact ⟨0, 1, Nat.zero_le _, Lib.hid rfl, by omega, rfl, rfl, (Q.refl _).drewN _⟩
    case round =>
      obtain ⟨i, k, hil, HK, hk, rfl, rfl, qr⟩ := hrel
      by_cases hlt : i < L.length
      · obtain ⟨a, ea, ha, hat⟩ := H3.out i hlt
        cases ea
        obtain ⟨d0, d1, d2, d3⟩ := hat.keep (by rw [add_block]; exact ha) fun _ hp => qr.cell hp
        clear hat
        by_cases hid : L[i].id = 0
        · have HK2 : Hid (k = 1 + (woV (L.take (i + 1)) 0).length) := Lib.hid (by rw [wo_take_no hlt hid, HK.out])
          obtain ⟨z, hz⟩ : ∃ z, z = L[i] := ⟨_, rfl⟩
          rw [← hz] at d0 d1 d2 d3 hid
          have hid' : ((z.id : Int) == 0) = true := by simp [hid]
          clear hz hid
          go_wp2
          go_roundw
          case rel => exact ⟨i + 1, k, by omega, HK2, hk, by first | trivial | rfl, by go_num, qr⟩
          case measure => simp [intOf]; omega
        · obtain ⟨hj, hv⟩ := HH.out i hlt hid
          have HK2 : Hid (k + 1 = 1 + (woV (L.take (i + 1)) 0).length) := Lib.hid (by rw [wo_take_yes hlt hid, HK.out, List.length_append, List.length_singleton]; omega)
          rw [← HK.out] at hj
          have hv2 : NL[k] = L[i] := by rw [← hv]; first | (congr 1; done) | (congr 1; exact HK.out)
          obtain ⟨a', ea', ha', hat'⟩ := H2.out k hj
          cases ea'
          rw [hv2] at hat'
          obtain ⟨j0, j1, j2, j3⟩ := hat'.keep (by rw [add_block]; exact ha') fun _ hp => qr.cell hp
          have hkb : k + 1 ≤ 100 := by
            have h1 := HK2.out
            have h2 := wo_length (L.take (i + 1)) 0
            rw [List.length_take] at h2
            omega
          obtain ⟨z, hz⟩ : ∃ z, z = L[i] := ⟨_, rfl⟩
          rw [← hz] at d0 d1 d2 d3 hid j0 j1 j2 j3
          have hid' : ((z.id : Int) == 0) = false := by
            have : ¬ (z.id : Int) = 0 := by omega
            simpa using this
          have hk1 : (k : Int) < (NL.length : Int) := by omega
          have hk2 : decide ((NL.length : Int) ≤ (k : Int)) = false := decide_eq_false (by omega)
          have hk3 : decide (NL.length ≤ k) = false := decide_eq_false (by omega)
          have hi1 : (i : Int) < (L.length : Int) := by omega
          clear hz hid hv hv2 hat'
          go_wp2_with fail
          go_quiet (fail)
          go_wp2
          go_roundw
          case rel => exact ⟨i + 1, k + 1, by omega, HK2, hkb, by go_num, by go_num, qr.drewN _⟩
          case measure => simp [intOf]; omega
      · obtain rfl : i = L.length := by omega
        have hkn : ((k : Int) == (NL.length : Int)) = true := by rw [HK.out, HE.out]; simp
        go_wp2_with fail
        refine (awake_any _).mono ?_
        rintro e w9 ⟨rfl, q9⟩
        go_wp2
        go_ret
        exact ⟨rfl, (qs.trans qr).trans q9⟩

set_option maxRecDepth 100000 in
theorem lifted (os : Os) (started : os.Started) (H : Type) (enc : TypeId × Value → H) :
    ReturnsInHanded {} Try.checked os 9 .any (Rows.chainHeldSpec.pre6 enc Try.prog Try.f9 Rows.chainHeldRow.domain false) (Rows.chainHeldSpec.post enc Try.prog Try.f9 false true false false) := by
  refine returnsInHanded_of_change (C := Try.checked) own started (by kernel_rfl) Try.func9
    (ChangeSpec.witness6 (enc := enc) (C := Try.checked) false ⟨#[], #[.slice none 0 0, .agg #[.int .u64 0, .string ByteArray.empty, .bool false, .int .i64 0]], []⟩ 8 (by kernel_rfl) (by kernel_rfl) (by kernel_rfl) (by kernel_rfl)) ?_
  intro W base args ds gs before hval0 hW hcnd _
  have hval : ∀ (j : Nat) t v, Try.f9.params[j]? = some t → args[j]? = some v → Value.okWide Try.prog W .any base t v := hval0
  have hW' := hW
  obtain ⟨p, q, hA0, hV, rfl, hfz, hnd⟩ := hW
  have hA : DataW.TrodAll enc Try.prog W 0 (fun _ => true) true Try.f9.params.toList args.toList ds p := hA0
  rw [Try.params9] at hA hval
  obtain ⟨v0, vs0, d0, ds0, p0, q0, hargs, rfl, rfl, h0, r0⟩ := trodAll_cons hA
  obtain ⟨v1, vs1, d1, ds1, p1, q1, rfl, rfl, rfl, h1, r1⟩ := trodAll_cons r0
  obtain ⟨rfl, rfl, rfl⟩ := trodAll_nil r1
  obtain rfl : args = #[v0, v1] := by cases args; simp_all
  obtain ⟨rfl, rfl⟩ := trodVars_none hV
  clear hA0 hval0
  simp only [List.append_nil] at hW'
  have hlt : ∀ x ∈ p0 ++ p1, x.block < W.heap.size := fun x hx => by simpa using hW'.lt x (by simpa using hx)
  obtain ⟨l0, t0, z0⟩ := open_vers (hval 0 22 v0 rfl rfl) h0
  obtain ⟨x1, rfl, u1⟩ := open_ver (hval 1 25 v1 rfl rfl) h1
  refine (walk l0 v0 x1 W t0 z0 u1).mono fun e W' ⟨he, bel⟩ => ?_
  subst he
  refine ⟨_, rfl, _, _, _, [], _, [], hW', trodAll_mk1 (shut_bool Try.underlying4 _), (trodAll_cons_mk (Below.trod laid (by kernel_rfl) (of_decide_eq_true (by kernel_rfl)) h0 bel (fun x hx => hlt x (by simp [hx]))) (trodAll_cons_mk (Below.trod laid (by kernel_rfl) (of_decide_eq_true (by kernel_rfl)) h1 bel (fun x hx => hlt x (by simp [hx]))) trodAll_mk0)), rfl, Below.frame bel _, fun h => by cases h⟩

theorem over : Rows.chainHeldRow.holds Try.pinned (OpenSpec.ofChange Rows.chainHeldSpec) :=
  OpenClaim.holds_of_wide 9 Try.f9 rfl rfl rfl rfl rfl rfl rfl ⟨rfl, rfl, rfl, rfl, rfl⟩ rfl rfl rfl rfl rfl (by kernel_rfl) Try.func9 (by kernel_rfl)
    (of_decide_eq_true (by kernel_rfl)) (by unfold Func.isWrapper; first | (rw [if_pos (by decide +kernel)]; kernel_rfl) | (rw [if_neg (by decide +kernel)]; exact ⟨rfl, rfl⟩))
    (fun os started H enc _ => lifted os started H enc)

theorem proved : Rows.ChainHeldSaid := over
#print axioms proved
end Go.Proofs.Ytflfhigldkdlmaa.chainHeld
