/-
  Proved: whatever uploads, number and part PartsLays is called with, it returns true and leaves what it was given as it was. No condition.
-/
import Derived.Deep.DeepCutAuto
import Derived.Deep.RegionHeld3
import Derived.Test.YtlahccmlnbdekaaUFewL
import Derived.Test.YtlahccmlnbdekaaUAwk
import Derived.Test.YtlahccmlnbdekaaURSame
import Derived.Test.YtlahccmlnbdekaaURLay2
namespace Go.Proofs.Ytlahccmlnbdekaa.partsLays
open Go.ChangeShapes Go.WideShapes Go.ChangeAt Go.RowKit
open Go.ChangeMaps (open_string shut_string)
set_option linter.unusedVariables false
set_option linter.unusedSimpArgs false

theorem addr0 (a : Addr) : a.add 0 = a := by cases a; simp [Addr.add]
/-- Parts lie elsewhere than in an upload's box, and stay where it is written. -/
theorem Prts.boxedU {w w' : World} {B : Nat} {v : Value} {l : List Prt} {A : Option Addr} {n c : Nat} {s : ByteArray} {i : Int} {t : TypeId} (h : Prts w w.heap.size v l)
    (hb : Bx w B t #[.int .u64 i, .string s, .slice A n c]) (hk : ∀ j, j ≠ B → w'.heap[j]? = w.heap[j]?) (hs : w.heap.size ≤ w'.heap.size) : Prts w' w'.heap.size v l := by
  obtain ⟨A', c', e, e0, ez, eo, f⟩ := h
  refine ⟨A', c', e, e0, ez, eo, fun k hk' => ?_⟩
  obtain ⟨a, e1, e2, e3⟩ := f k hk'
  refine ⟨a, e1, by omega, ?_⟩
  have hne : (a.add (k * 2)).block ≠ B := by
    obtain ⟨c0, c1⟩ := e3
    generalize a.add (k * 2) = p at c0 c1
    intro hp
    obtain ⟨b, o, x⟩ := p
    simp only at hp c1
    subst hp
    rw [hb.cell] at c1
    match o with
    | 0 =>
      cases x with
      | none => rw [hb.cell] at c0; simp at c0
      | some x => simp [World.cell?, show w.heap[b]? = _ from hb] at c0
    | 1 => simp at c1
    | o + 2 => simp at c1
  exact ⟨(World.cell?_of_block (hk _ hne)).trans e3.1, (World.cell?_of_block (a := ⟨(a.add (k * 2)).block, (a.add (k * 2)).off + 1, none⟩) (hk _ hne)).trans e3.2⟩
/-- An upload in a box of its own, as a slice. -/
theorem upls_box (w : World) (u : Upl) (v : Value) (h : okU u) (t : Prts w w.heap.size v u.L) : Upls (w.alloc (.cells #[.int .u64 (u.id : Nat), .string u.key, v] 40)) (w.alloc (.cells #[.int .u64 (u.id : Nat), .string u.key, v] 40)).heap.size (.slice (some ⟨w.heap.size, 0, none⟩) 1 1) [u] := by
  refine ⟨_, _, rfl, Nat.le_refl _, (by simp), fun x hx => ?_, fun k hk => ?_⟩
  · obtain rfl : x = u := by simpa using hx
    exact h
  · have k0 : k = 0 := by simpa using hk
    subst k0
    refine ⟨_, rfl, by simp, ?_, ?_, v, ?_, ?_⟩
    · simp [Addr.add]
    · simp [Addr.add]
    · simp [Addr.add]
    · exact t.on ((Q.refl w).alloc _)

theorem oneD_idem (d : ByteArray) : oneD (oneD d) = oneD d := by
  have := oneD_size d
  rw [oneD, if_neg (by omega)]
theorem fewS_idem (s : ByteArray) : fewS (fewS s) = fewS s := by
  have := fewS_size s
  rw [fewS, if_neg (by omega)]
theorem fewU_idem (u : Upl) : fewU (fewU u) = fewU u := by
  have h1 : (((u.L.take 31).map oneP).take 31).map oneP = (u.L.take 31).map oneP := by
    rw [List.take_of_length_le (by rw [List.length_map, List.length_take]; omega), List.map_map]
    congr 1; funext p
    show oneP (oneP p) = oneP p
    rw [oneP, oneP]; simp only; rw [oneD_idem]
  rw [fewU, fewU]; simp only; rw [fewS_idem, h1]
theorem fewL_idem (l : List Upl) : fewL (fewL l) = fewL l := by
  rw [fewL, fewL, List.take_of_length_le (by rw [List.length_map, List.length_take]; omega), List.map_map]
  congr 1; funext u
  exact fewU_idem u
theorem find_in {l : List Upl} {id : Nat} {x : Upl} {e : Nat} (h : FindC l id x e) : x = noU ∨ x ∈ l := by
  cases h with
  | arg => exact .inl rfl
  | none => exact .inl rfl
  | yes i hi => exact .inr (List.getElem_mem hi)
theorem okU_no : okU noU := ⟨by decide, by decide, by decide⟩
theorem smU_no : smU noU := ⟨by decide, by decide, by simp [noU]⟩
set_option maxHeartbeats 8000000 in
set_option maxRecDepth 100000 in
theorem walk (l : List Upl) (v : Value) (idv : Int) (p : Prt) (w : World) (t0 : Upls w w.heap.size v l) (z0 : l.length ≤ maxLen) (w1 : (Lit.int .u64 idv).wf = true) (up : okP p) :
    Calls Try.prog 3 #[v, .int .u64 idv, prt p] w fun e w' => e = .returned (.bool true) ∧ Q w w' := by
  obtain ⟨id, rfl, hid⟩ : ∃ n : Nat, idv = n ∧ n < 18446744073709551616 := by
    have h2 : 0 ≤ idv ∧ idv ≤ 18446744073709551615 := by simpa [Lit.wf, IntKind.min, IntKind.max, IntKind.signed, IntKind.bits] using w1
    exact ⟨idv.toNat, by omega, by omega⟩
  have FW : Hid (∀ d, Q w d → Calls Try.prog 10 #[v] d fun e w' => ∃ v', e = .returned v' ∧ RowF d.heap.size w' v' (fewL l) ∧ Q d w') := Lib.hid fun d q => fewUp_row l v d z0 (t0.on q)
  have sl := fewL_sm l
  obtain ⟨L, hL⟩ : ∃ L, L = fewL l := ⟨_, rfl⟩
  rw [← hL] at FW sl
  have op := okP_one up
  obtain ⟨pn, pd⟩ := p
  have ON := Lib.hid fun d => onePt_any ⟨pn, pd⟩ d up.2.2
  have hxd : (oneP ⟨pn, pd⟩).data.size ≤ 2001 := oneD_size pd
  obtain ⟨xn, xd, hx⟩ : ∃ a b, oneP ⟨pn, pd⟩ = ⟨a, b⟩ := ⟨_, _, rfl⟩
  rw [hx] at ON op hxd
  simp only [prt] at ON hxd ⊢
  obtain ⟨A, c, rfl⟩ := t0.form
  obtain ⟨N, hN⟩ : ∃ N, l.length = N := ⟨_, rfl⟩
  rw [hN] at FW ⊢
  have q00 := (Q.refl w).alloc (.cells #[.int .i64 pn, .string pd] 25)
  have AW := Lib.hid fun d => awakeU_any d
  clear t0 z0 w1 up hN hx
  obtain ⟨r, t, n, hLay⟩ := layC_ex L id ⟨xn, xd⟩
  obtain ⟨s, m, hAb⟩ := abortC_ex L id
  obtain ⟨X, f, hF⟩ := findC_ex L id
  obtain ⟨R, hR⟩ := chk_ex (okUps L)
  have sr : smL r := by
    cases hLay with
    | arg => exact ⟨by simp, by simp⟩
    | none => exact ⟨by simp, by simp⟩
    | large => exact ⟨by simp, by simp⟩
    | yes i h h1 h2 h3 h4 h5 => exact okUps_sm (layC_ok (.yes i h h1 h2 h3 h4 h5))
  have ss : smL s := by
    cases hAb with
    | arg => exact ⟨by simp, by simp⟩
    | none => exact ⟨by simp, by simp⟩
    | yes i h h1 h2 h3 => exact okUps_sm (rmU_ok h1)
  have sX : smU X := by rcases find_in hF with rfl | h; exact smU_no; exact sl.2 _ h
  have LY : Hid (∀ d u, Upls d d.heap.size u L → Calls Try.prog 12 #[u, .int .u64 (id : Nat), .agg #[.int .i64 xn, .string xd]] d fun z w' => ∃ u, z = .returned (.tuple #[u, .int .u32 (t : Nat), .int .i64 (n : Nat)]) ∧ Upls w' w'.heap.size u r ∧ Q d w') := Lib.hid fun d u h => layU_any L u id ⟨xn, xd⟩ d r t n hLay op sl h
  have RL : Hid (∀ d u, Upls d d.heap.size u L → Calls Try.prog 13 #[u, .int .u64 (id : Nat), .agg #[.int .i64 xn, .string xd]] d fun z w' => ∃ u, z = .returned (.tuple #[u, .int .u32 (t : Nat), .int .i64 (n : Nat)]) ∧ Upls w' w'.heap.size u r ∧ Q d w') := Lib.hid fun d u h => rlayU_any L u id ⟨xn, xd⟩ d r t n hLay op sl h
  have AB : Hid (∀ d u, Upls d d.heap.size u L → Calls Try.prog 14 #[u, .int .u64 (id : Nat)] d fun x w' => ∃ u, x = .returned (.tuple #[u, .int .i64 (m : Nat)]) ∧ Upls w' w'.heap.size u s ∧ Q d w') := Lib.hid fun d u h => abortU_any L u id d s m hAb sl h
  have RA : Hid (∀ d u, Upls d d.heap.size u L → Calls Try.prog 15 #[u, .int .u64 (id : Nat)] d fun x w' => ∃ u, x = .returned (.tuple #[u, .int .i64 (m : Nat)]) ∧ Upls w' w'.heap.size u s ∧ Q d w') := Lib.hid fun d u h => rabortU_any L u id d s m hAb sl h
  have FD : Hid (∀ d u, Upls d d.heap.size u L → Calls Try.prog 16 #[u, .int .u64 (id : Nat)] d fun x w' => ∃ u, x = .returned (.tuple #[upl X u, .int .i64 (f : Nat)]) ∧ OwnP d.heap.size w' u X.L ∧ Q d w') := Lib.hid fun d u h => findU_any L u id d X f hF sl h
  have RF : Hid (∀ d u, Upls d d.heap.size u L → Calls Try.prog 17 #[u, .int .u64 (id : Nat)] d fun x w' => ∃ u, x = .returned (.tuple #[upl X u, .int .i64 (f : Nat)]) ∧ Prts d d.heap.size u X.L ∧ Q d w') := Lib.hid fun d u h => rfindU_any L u id d X f hF sl h
  have FW2 : Hid (∀ d u, Upls d d.heap.size u L → Calls Try.prog 10 #[u] d fun e w' => ∃ v', e = .returned v' ∧ Upls w' w'.heap.size v' L ∧ Q d w') := Lib.hid fun d u h => by
    have := fewUp_any L u d (by have := sl.1; unfold maxLen; omega) h
    rw [show fewL L = L by rw [hL, fewL_idem]] at this
    exact this
  have same := fun (a : List Upl) (ha : smL a) => Lib.hid fun d u u2 (h : Upls d d.heap.size u a) (h2 : Upls d d.heap.size u2 a) => (rsameU_any a a u u2 d true (.inl ⟨rfl, rfl⟩) ha ha h h2).mono fun e w' (h : e = .returned (.bool true) ∧ D d w') => (⟨h.1, h.2.q⟩ : e = .returned (.bool true) ∧ Q d w')
  have SR := same r sr
  have SS := same s ss
  have SX := same [X] ⟨by simp, by simpa using sX⟩
  have SL := same L sl
  have CK : Hid (∀ d u, Upls d d.heap.size u L → Calls Try.prog 19 #[u] d fun e w' => e = .returned (.int .i64 (chkE R)) ∧ Q d w') := Lib.hid fun d u h => checkU_any L u d R hR sl h
  have CM : Hid (∀ d u, Upls d d.heap.size u L → Calls Try.prog 20 #[u] d fun e w' => e = .returned (.bool R) ∧ Q d w') := Lib.hid fun d u h => rmayL_any L u d R hR sl h
  have HFI := Lib.hid (find_in hF)
  clear same
  go_enter Try.func3, Try.ntmps3
  go_upto_region 1 with fail
  go_cut [0] from 22 to 25 (fun V wz => Upls wz wz.heap.size V L ∧ Bx wz w.heap.size 25 #[.int .i64 xn, .string xd] ∧ Q w wz)
  case first =>
    refine wp_region_held_drew (S := (fun _ => True)) (by kernel_rfl) trivial (fun hHeld => ?_)
    refine wpAnyH_take (i := 0) (oi := _) (v := ?_) rfl (by kernel_rfl) (by kernel_rfl) (by kernel_rfl) (fun _ _ _ h => h) (Or.inl ⟨by rfl, ?_⟩) (by assumption) ?_
    rotate_left
    · (intro wx hSw; (try dsimp only at hSw); go_simp; (try with_reducible rfl))
    (try simp only [Act.put, List.getElem_toArray, List.getElem_cons_zero, List.getElem_cons_succ, List.setIfInBounds_toArray, List.set_cons_zero, List.set_cons_succ])
    refine wpAnyH_ready (rs := [1, 2]) (by kernel_rfl) (by simp) ?_
    refine AllReadyH.cons (o := _) rfl (fun K hK => ?_) (AllReadyH.cons (o := _) rfl (fun K hK => ?_) AllReadyH.nil)
    · go_simp
      go_at_call 10
      refine (FW.out _ (q00.trans (Q.refl _).drew)).mono ?_
      rintro e wa ⟨v1, rfl, h1, qf⟩
      have qx := ((Q.refl (w.alloc (.cells #[.int .i64 pn, .string pd] 25))).drew).trans qf
      have bq := boxP_bx qx
      have b0 := bq.cell 0
      have b1 := bq.cell 1
      simp only [List.getElem?_toArray, List.getElem?_cons_zero, List.getElem?_cons_succ] at b0 b1
      refine hK.out _ _ trivial (fun hHeld => ?_)
      clear hK K
      (try simp only [Act.put, List.getElem_toArray, List.getElem_cons_zero, List.getElem_cons_succ, List.setIfInBounds_toArray, List.set_cons_zero, List.set_cons_succ])
      refine wpAnyH_ready (rs := [2]) (by kernel_rfl) (by simp) ?_
      refine AllReadyH.cons (o := _) rfl (fun K hK => ?_) AllReadyH.nil
      go_simp
      refine hK.out _ _ trivial (fun hHeld => ?_)
      clear hK K
      (try simp only [Act.put, List.getElem_toArray, List.getElem_cons_zero, List.getElem_cons_succ, List.setIfInBounds_toArray, List.set_cons_zero, List.set_cons_succ])
      clear b0 b1 bq
      refine wpAnyH_ready (rs := [3]) (by kernel_rfl) (by simp) ?_
      refine AllReadyH.cons (o := _) rfl (fun K hK => ?_) AllReadyH.nil
      go_simp
      go_at_call 11
      refine (ON.out _).mono ?_
      rintro e wb ⟨rfl, qo⟩
      have qz := qx.trans qo
      refine hK.out _ _ trivial (fun hHeld => ?_)
      clear hK K
      (try simp only [Act.put, List.getElem_toArray, List.getElem_cons_zero, List.getElem_cons_succ, List.setIfInBounds_toArray, List.set_cons_zero, List.set_cons_succ])
      refine wpAnyH_take (i := 4) (oi := _) (v := ?_) rfl (by kernel_rfl) (by kernel_rfl) (by kernel_rfl) (fun _ _ _ h => h) (Or.inl ⟨by rfl, ?_⟩) (by assumption) ?_
      rotate_left
      · (intro wx hSw; (try dsimp only at hSw); go_simp; (try with_reducible rfl))
      (try simp only [Act.put, List.getElem_toArray, List.getElem_cons_zero, List.getElem_cons_succ, List.setIfInBounds_toArray, List.set_cons_zero, List.set_cons_succ])
      have bz := boxP_bx qz
      have b0 := bz.cell 0
      have b1 := bz.cell 1
      have f0 := bz.frozen 0
      have f1 := bz.frozen 1
      simp only [List.getElem?_toArray, List.getElem?_cons_zero, List.getElem?_cons_succ] at b0 b1
      refine wpAnyH_ready (rs := [5]) (by kernel_rfl) (by simp) ?_
      refine AllReadyH.cons (o := _) rfl (fun K hK => ?_) AllReadyH.nil
      go_simp
      have hz2 := (((h1.on qo).set (B := w.heap.size) (i := 0) (u := .int .i64 xn) (by simp)).set (B := w.heap.size) (i := 1) (u := .string xd) (by simp)).read (by have := (qf.trans qo).size; simp at this ⊢; exact this)
      have qz2 := (Q.set (k := 1) (Q.set (k := 0) (q00.trans qz) (Nat.le_refl w.heap.size) (.int .i64 xn)) (Nat.le_refl w.heap.size) (.string xd))
      have bz2 := (bz.set 0 (.int .i64 xn)).set 1 (.string xd)
      refine hK.out _ _ trivial (fun hHeld => ?_)
      clear hK K
      (try simp only [Act.put, List.getElem_toArray, List.getElem_cons_zero, List.getElem_cons_succ, List.setIfInBounds_toArray, List.set_cons_zero, List.set_cons_succ])
      refine wpAnyH_done (by kernel_rfl) ?_ _
      go_wp2_with fail
      go_meet
      exact ⟨hz2, bz2, qz2⟩
    · go_simp
      refine hK.out _ _ trivial (fun hHeld => ?_)
      clear hK K
      (try simp only [Act.put, List.getElem_toArray, List.getElem_cons_zero, List.getElem_cons_succ, List.setIfInBounds_toArray, List.set_cons_zero, List.set_cons_succ])
      refine wpAnyH_ready (rs := [1]) (by kernel_rfl) (by simp) ?_
      refine AllReadyH.cons (o := _) rfl (fun K hK => ?_) AllReadyH.nil
      go_simp
      go_at_call 10
      refine (FW.out _ (q00.trans (Q.refl _).drew)).mono ?_
      rintro e wa ⟨v1, rfl, h1, qf⟩
      have qx := ((Q.refl (w.alloc (.cells #[.int .i64 pn, .string pd] 25))).drew).trans qf
      refine hK.out _ _ trivial (fun hHeld => ?_)
      clear hK K
      (try simp only [Act.put, List.getElem_toArray, List.getElem_cons_zero, List.getElem_cons_succ, List.setIfInBounds_toArray, List.set_cons_zero, List.set_cons_succ])
      refine wpAnyH_ready (rs := [3]) (by kernel_rfl) (by simp) ?_
      refine AllReadyH.cons (o := _) rfl (fun K hK => ?_) AllReadyH.nil
      go_simp
      go_at_call 11
      refine (ON.out _).mono ?_
      rintro e wb ⟨rfl, qo⟩
      have qz := qx.trans qo
      refine hK.out _ _ trivial (fun hHeld => ?_)
      clear hK K
      (try simp only [Act.put, List.getElem_toArray, List.getElem_cons_zero, List.getElem_cons_succ, List.setIfInBounds_toArray, List.set_cons_zero, List.set_cons_succ])
      refine wpAnyH_take (i := 4) (oi := _) (v := ?_) rfl (by kernel_rfl) (by kernel_rfl) (by kernel_rfl) (fun _ _ _ h => h) (Or.inl ⟨by rfl, ?_⟩) (by assumption) ?_
      rotate_left
      · (intro wx hSw; (try dsimp only at hSw); go_simp; (try with_reducible rfl))
      (try simp only [Act.put, List.getElem_toArray, List.getElem_cons_zero, List.getElem_cons_succ, List.setIfInBounds_toArray, List.set_cons_zero, List.set_cons_succ])
      have bz := boxP_bx qz
      have b0 := bz.cell 0
      have b1 := bz.cell 1
      have f0 := bz.frozen 0
      have f1 := bz.frozen 1
      simp only [List.getElem?_toArray, List.getElem?_cons_zero, List.getElem?_cons_succ] at b0 b1
      refine wpAnyH_ready (rs := [5]) (by kernel_rfl) (by simp) ?_
      refine AllReadyH.cons (o := _) rfl (fun K hK => ?_) AllReadyH.nil
      go_simp
      have hz2 := (((h1.on qo).set (B := w.heap.size) (i := 0) (u := .int .i64 xn) (by simp)).set (B := w.heap.size) (i := 1) (u := .string xd) (by simp)).read (by have := (qf.trans qo).size; simp at this ⊢; exact this)
      have qz2 := (Q.set (k := 1) (Q.set (k := 0) (q00.trans qz) (Nat.le_refl w.heap.size) (.int .i64 xn)) (Nat.le_refl w.heap.size) (.string xd))
      have bz2 := (bz.set 0 (.int .i64 xn)).set 1 (.string xd)
      refine hK.out _ _ trivial (fun hHeld => ?_)
      clear hK K
      (try simp only [Act.put, List.getElem_toArray, List.getElem_cons_zero, List.getElem_cons_succ, List.setIfInBounds_toArray, List.set_cons_zero, List.set_cons_succ])
      refine wpAnyH_done (by kernel_rfl) ?_ _
      go_wp2_with fail
      go_meet
      exact ⟨hz2, bz2, qz2⟩
  case rest =>
    obtain ⟨t1, bz, qz⟩ := hcut
    obtain ⟨A1, c1, rfl⟩ := t1.form
    clear FW ON
    clear hLay hAb hR sr ss sX op hL
    have okX : okU X := by rcases HFI.out with h | h; (rw [h]; exact okU_no); exact t1.okAll _ h
    have okP9 : ∀ p ∈ X.L, okP p := by rcases HFI.out with h | h; (rw [h]; simp [noU]); exact t1.okIn _ h
    have HOX := Lib.hid okX
    have hlenN := sl.1
    obtain ⟨xi, xk, xL⟩ := X
    simp only [upl] at FD RF HOX okP9
    have HP2 : Hid (∀ b, Q wc b → b.cell? ⟨w.heap.size, 0, none⟩ = some (.int .i64 xn) ∧ b.cell? ⟨w.heap.size, 1, none⟩ = some (.string xd)) := Lib.hid fun b q => ⟨(bz.on q).cell 0, (bz.on q).cell 1⟩
    clear bz hF okX HFI sl
    have T1 := Lib.hid t1
    clear t1
    go_wp2_with fail
    refine (FW2.out _ _ (T1.out.on (Q.refl _))).mono ?_
    rintro e w1 ⟨v1, rfl, h1, q1⟩
    have H1 := Lib.hid h1
    obtain ⟨A2, c2, rfl⟩ := h1.form
    clear h1
    obtain ⟨b0, b1⟩ := HP2.out _ ((Q.refl _).trans q1)
    go_wp2_with fail
    refine (LY.out _ _ (T1.out.on ((Q.refl _).trans q1))).mono ?_
    rintro e w2 ⟨v2, rfl, h2, q2⟩
    have H2 := Lib.hid h2
    obtain ⟨A3, c3, rfl⟩ := h2.form
    clear h2 b0 b1
    obtain ⟨b0, b1⟩ := HP2.out _ (((Q.refl _).trans q1).trans q2)
    go_wp2_with fail
    refine (RL.out _ _ (T1.out.on (((Q.refl _).trans q1).trans q2))).mono ?_
    rintro e w3 ⟨v3, rfl, h3, q3⟩
    have H3 := Lib.hid h3
    obtain ⟨A4, c4, rfl⟩ := h3.form
    clear h3 b0 b1
    go_wp2_with fail
    refine (AB.out _ _ (T1.out.on ((((Q.refl _).trans q1).trans q2).trans q3))).mono ?_
    rintro e w4 ⟨v4, rfl, h4, q4⟩
    have H4 := Lib.hid h4
    obtain ⟨A5, c5, rfl⟩ := h4.form
    clear h4
    go_wp2_with fail
    refine (RA.out _ _ (T1.out.on (((((Q.refl _).trans q1).trans q2).trans q3).trans q4))).mono ?_
    rintro e w5 ⟨v5, rfl, h5, q5⟩
    have H5 := Lib.hid h5
    obtain ⟨A6, c6, rfl⟩ := h5.form
    clear h5
    go_wp2_with fail
    refine (FD.out _ _ (T1.out.on ((((((Q.refl _).trans q1).trans q2).trans q3).trans q4).trans q5))).mono ?_
    rintro e w6 ⟨v6, rfl, o6, q6⟩
    have H6 := Lib.hid (o6.read okP9)
    obtain ⟨A7, n7, c7, rfl⟩ := o6.nm
    clear o6
    have X6 : Hid (∀ b, Q (w6.alloc (.cells #[.int .u64 (xi : Nat), .string xk, .slice A7 n7 c7] 40)) b → b.cell? ⟨w6.heap.size, 0, none⟩ = some (.int .u64 (xi : Nat)) ∧ b.cell? ⟨w6.heap.size, 1, none⟩ = some (.string xk) ∧ b.cell? ⟨w6.heap.size, 2, none⟩ = some (.slice A7 n7 c7)) := Lib.hid fun b qb => boxU_of qb
    go_wp2_with fail
    refine (RF.out _ _ (T1.out.on ((((((((Q.refl _).trans q1).trans q2).trans q3).trans q4).trans q5).trans q6).alloc _))).mono ?_
    rintro e w7 ⟨v7, rfl, p7, q7⟩
    have H7 := Lib.hid (p7.on q7)
    obtain ⟨A8, c8, rfl⟩ := p7.form
    obtain ⟨n8, hn8⟩ : ∃ n, xL.length = n := ⟨_, rfl⟩
    rw [hn8] at H7 ⊢
    clear p7 hn8
    have X7 : Hid (∀ b, Q (w7.alloc (.cells #[.int .u64 (xi : Nat), .string xk, .slice A8 n8 c8] 40)) b → b.cell? ⟨w7.heap.size, 0, none⟩ = some (.int .u64 (xi : Nat)) ∧ b.cell? ⟨w7.heap.size, 1, none⟩ = some (.string xk) ∧ b.cell? ⟨w7.heap.size, 2, none⟩ = some (.slice A8 n8 c8)) := Lib.hid fun b qb => boxU_of qb
    go_wp2_with fail
    refine (SR.out _ _ _ (H2.out.on ((((((((Q.refl _).trans q3).trans q4).trans q5).trans q6).alloc _).trans q7).alloc _)) (H3.out.on (((((((Q.refl _).trans q4).trans q5).trans q6).alloc _).trans q7).alloc _))).mono ?_
    rintro e w8 ⟨rfl, q8⟩
    go_wp2_with fail
    refine (SS.out _ _ _ (H4.out.on (((((((Q.refl _).trans q5).trans q6).alloc _).trans q7).alloc _).trans q8)) (H5.out.on ((((((Q.refl _).trans q6).alloc _).trans q7).alloc _).trans q8))).mono ?_
    rintro e w9 ⟨rfl, q9⟩
    obtain ⟨d0, d1, d2⟩ := X6.out _ (((((Q.refl _).trans q7).alloc _).trans q8).trans q9)
    obtain ⟨f0, f1, f2⟩ := X7.out _ ((((Q.refl _).trans q8).trans q9).alloc (.cells #[.int .u64 (xi : Nat), .string xk, .slice A7 n7 c7] 40))
    have P6 := H6.out.on ((((((Q.refl _).alloc _).trans q7).alloc _).trans q8).trans q9)
    have P7 := H7.out.on ((((Q.refl _).alloc _).trans q8).trans q9)
    have U1 : Upls ((w9.alloc (.cells #[.int .u64 (xi : Nat), .string xk, .slice A7 n7 c7] 40)).alloc (.cells #[.int .u64 (xi : Nat), .string xk, .slice A8 n8 c8] 40)) ((w9.alloc (.cells #[.int .u64 (xi : Nat), .string xk, .slice A7 n7 c7] 40)).alloc (.cells #[.int .u64 (xi : Nat), .string xk, .slice A8 n8 c8] 40)).heap.size (.slice (some ⟨w9.heap.size, 0, none⟩) 1 1) [⟨xi, xk, xL⟩] := by
      have := (upls_box w9 ⟨xi, xk, xL⟩ (.slice A7 n7 c7) HOX.out P6).on ((Q.refl _).alloc (.cells #[.int .u64 (xi : Nat), .string xk, .slice A8 n8 c8] 40))
      simp only [World.size_alloc] at this ⊢
      exact this
    have U2 : Upls ((w9.alloc (.cells #[.int .u64 (xi : Nat), .string xk, .slice A7 n7 c7] 40)).alloc (.cells #[.int .u64 (xi : Nat), .string xk, .slice A8 n8 c8] 40)) ((w9.alloc (.cells #[.int .u64 (xi : Nat), .string xk, .slice A7 n7 c7] 40)).alloc (.cells #[.int .u64 (xi : Nat), .string xk, .slice A8 n8 c8] 40)).heap.size (.slice (some ⟨w9.heap.size + 1, 0, none⟩) 1 1) [⟨xi, xk, xL⟩] := by
      have := upls_box (w9.alloc (.cells #[.int .u64 (xi : Nat), .string xk, .slice A7 n7 c7] 40)) ⟨xi, xk, xL⟩ (.slice A8 n8 c8) HOX.out (P7.on ((Q.refl w9).alloc (.cells #[.int .u64 (xi : Nat), .string xk, .slice A7 n7 c7] 40)))
      simp only [World.size_alloc] at this ⊢
      exact this
    go_wp2_with fail
    refine (SX.out _ _ _ U1 U2).mono ?_
    rintro e w10 ⟨rfl, q10⟩
    clear U1 U2 P6 P7 d0 d1 d2 f0 f1 f2
    go_wp2_with fail
    refine (CK.out _ _ (T1.out.on (((((((((((((((Q.refl _).trans q1).trans q2).trans q3).trans q4).trans q5).trans q6).alloc _).trans q7).alloc _).trans q8).trans q9).alloc _).alloc _).trans q10))).mono ?_
    rintro e w11 ⟨rfl, q11⟩
    cases R with
    | false =>
      simp only [chkE, if_neg Bool.false_ne_true]
      go_wp2_with fail
      refine (CM.out _ _ (T1.out.on ((((((((((((((((Q.refl _).trans q1).trans q2).trans q3).trans q4).trans q5).trans q6).alloc _).trans q7).alloc _).trans q8).trans q9).alloc _).alloc _).trans q10).trans q11))).mono ?_
      rintro e w12 ⟨rfl, q12⟩
      go_wp2_with fail
      refine (SL.out _ _ _ (T1.out.on (((((((((((((((((Q.refl _).trans q1).trans q2).trans q3).trans q4).trans q5).trans q6).alloc _).trans q7).alloc _).trans q8).trans q9).alloc _).alloc _).trans q10).trans q11).trans q12)) (H1.out.on ((((((((((((((((Q.refl _).trans q2).trans q3).trans q4).trans q5).trans q6).alloc _).trans q7).alloc _).trans q8).trans q9).alloc _).alloc _).trans q10).trans q11).trans q12))).mono ?_
      rintro e w13 ⟨rfl, q13⟩
      go_wp2_with fail
      refine (AW.out _).mono ?_
      rintro e w14 ⟨rfl, q14⟩
      go_wp2
      go_ret
      exact ⟨rfl, qz.trans (((((((((((((((((((Q.refl _).trans q1).trans q2).trans q3).trans q4).trans q5).trans q6).alloc _).trans q7).alloc _).trans q8).trans q9).alloc _).alloc _).trans q10).trans q11).trans q12).trans q13).trans q14)⟩
    | true =>
      simp only [chkE, if_true]
      go_wp2_with fail
      refine (CM.out _ _ (T1.out.on ((((((((((((((((Q.refl _).trans q1).trans q2).trans q3).trans q4).trans q5).trans q6).alloc _).trans q7).alloc _).trans q8).trans q9).alloc _).alloc _).trans q10).trans q11))).mono ?_
      rintro e w12 ⟨rfl, q12⟩
      go_wp2_with fail
      refine (SL.out _ _ _ (T1.out.on (((((((((((((((((Q.refl _).trans q1).trans q2).trans q3).trans q4).trans q5).trans q6).alloc _).trans q7).alloc _).trans q8).trans q9).alloc _).alloc _).trans q10).trans q11).trans q12)) (H1.out.on ((((((((((((((((Q.refl _).trans q2).trans q3).trans q4).trans q5).trans q6).alloc _).trans q7).alloc _).trans q8).trans q9).alloc _).alloc _).trans q10).trans q11).trans q12))).mono ?_
      rintro e w13 ⟨rfl, q13⟩
      go_wp2_with fail
      refine (AW.out _).mono ?_
      rintro e w14 ⟨rfl, q14⟩
      go_wp2
      go_ret
      exact ⟨rfl, qz.trans (((((((((((((((((((Q.refl _).trans q1).trans q2).trans q3).trans q4).trans q5).trans q6).alloc _).trans q7).alloc _).trans q8).trans q9).alloc _).alloc _).trans q10).trans q11).trans q12).trans q13).trans q14)⟩

set_option maxRecDepth 100000 in
theorem lifted (os : Os) (started : os.Started) (H : Type) (enc : TypeId × Value → H) :
    ReturnsInHanded {} Try.checked os 3 .any (Rows.partsLaysSpec.pre6 enc Try.prog Try.f3 Rows.partsLaysRow.domain false) (Rows.partsLaysSpec.post enc Try.prog Try.f3 false true false false) := by
  refine returnsInHanded_of_change (C := Try.checked) own started (by kernel_rfl) Try.func3
    (ChangeSpec.witness6 (enc := enc) (C := Try.checked) false ⟨#[], #[.slice none 0 0, .int .u64 0, .agg #[.int .i64 0, .string ByteArray.empty]], []⟩ 8 (by kernel_rfl) (by kernel_rfl) (by kernel_rfl) (by kernel_rfl)) ?_
  intro W base args ds gs before hval0 hW hcnd _
  have hval : ∀ (j : Nat) t v, Try.f3.params[j]? = some t → args[j]? = some v → Value.okWide Try.prog W .any base t v := hval0
  have hW' := hW
  obtain ⟨p, q, hA0, hV, rfl, hfz, hnd⟩ := hW
  have hA : DataW.TrodAll enc Try.prog W 0 (fun _ => true) true Try.f3.params.toList args.toList ds p := hA0
  rw [Try.params3] at hA hval
  obtain ⟨v0, vs0, d0, ds0, p0, q0, hargs, rfl, rfl, h0, r0⟩ := trodAll_cons hA
  obtain ⟨v1, vs1, d1, ds1, p1, q1, rfl, rfl, rfl, h1, r1⟩ := trodAll_cons r0
  obtain ⟨v2, vs2, d2, ds2, p2, q2, rfl, rfl, rfl, h2, r2⟩ := trodAll_cons r1
  obtain ⟨rfl, rfl, rfl⟩ := trodAll_nil r2
  obtain rfl : args = #[v0, v1, v2] := by cases args; simp_all
  obtain ⟨rfl, rfl⟩ := trodVars_none hV
  clear hA0 hval0
  simp only [List.append_nil] at hW'
  have hlt : ∀ x ∈ p0 ++ p1 ++ p2, x.block < W.heap.size := fun x hx => by simpa using hW'.lt x (by simpa using hx)
  obtain ⟨l0, t0, z0⟩ := open_upls (hval 0 22 v0 rfl rfl) h0
  obtain ⟨a1, rfl, -, -, w1⟩ := open_int Try.underlying23 (hval 1 23 v1 rfl rfl) h1
  obtain ⟨x2, rfl, u2⟩ := open_part (hval 2 25 v2 rfl rfl) h2
  refine (walk l0 v0 a1 x2 W t0 z0 w1 u2).mono fun e W' ⟨he, bel⟩ => ?_
  subst he
  refine ⟨_, rfl, _, _, _, [], _, [], hW', trodAll_mk1 (shut_bool Try.underlying4 _), (trodAll_cons_mk (Below.trod laid (by kernel_rfl) (of_decide_eq_true (by kernel_rfl)) h0 bel (fun x hx => hlt x (by simp [hx]))) (trodAll_cons_mk (Below.trod laid (by kernel_rfl) (of_decide_eq_true (by kernel_rfl)) h1 bel (fun x hx => hlt x (by simp [hx]))) (trodAll_cons_mk (Below.trod laid (by kernel_rfl) (of_decide_eq_true (by kernel_rfl)) h2 bel (fun x hx => hlt x (by simp [hx]))) trodAll_mk0))), rfl, Below.frame bel _, fun h => by cases h⟩

theorem over : Rows.partsLaysRow.holds Try.pinned (OpenSpec.ofChange Rows.partsLaysSpec) :=
  OpenClaim.holds_of_wide 3 Try.f3 rfl rfl rfl rfl rfl rfl rfl ⟨rfl, rfl, rfl, rfl, rfl⟩ rfl rfl rfl rfl rfl (by kernel_rfl) Try.func3 (by kernel_rfl)
    (of_decide_eq_true (by kernel_rfl)) (by unfold Func.isWrapper; first | (rw [if_pos (by decide +kernel)]; kernel_rfl) | (rw [if_neg (by decide +kernel)]; exact ⟨rfl, rfl⟩))
    (fun os started H enc _ => lifted os started H enc)

theorem proved : Rows.PartsLaysSaid := over
#print axioms proved
end Go.Proofs.Ytlahccmlnbdekaa.partsLays
