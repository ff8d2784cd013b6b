/-
  Proved: whatever chain, IDs and version ChainTurns is called with, it returns true and leaves what it was given as it was. No condition.
-/
import Derived.Test.YtflfhigldkdlmaaVTurn
import Derived.Deep.DeepCutAuto
import Derived.Deep.RegionHeld3
namespace Go.Proofs.Ytflfhigldkdlmaa.chainTurns
open Go.ChangeShapes Go.WideShapes Go.ChangeAt Go.RowKit
open Go.ChangeMaps (open_string shut_string)
set_option linter.unusedVariables false
set_option linter.unusedSimpArgs false

/-- The box of a Turn, behind calls. -/
theorem turn_of {w w1 : World} {u : Value} {a b i : Int} {d : ByteArray} {m : Bool} {t : Int} (q : Q (w.alloc (.cells #[u, .int .u64 a, .int .u64 b, .int .u64 i, .string d, .bool m, .int .i64 t] 55)) w1) :
    w1.cell? ⟨w.heap.size, 0, none⟩ = some u ∧ w1.cell? ⟨w.heap.size, 1, none⟩ = some (.int .u64 a) ∧ w1.cell? ⟨w.heap.size, 2, none⟩ = some (.int .u64 b) ∧ w1.cell? ⟨w.heap.size, 3, none⟩ = some (.int .u64 i) ∧ w1.cell? ⟨w.heap.size, 4, none⟩ = some (.string d) ∧ w1.cell? ⟨w.heap.size, 5, none⟩ = some (.bool m) ∧ w1.cell? ⟨w.heap.size, 6, none⟩ = some (.int .i64 t) := by
  have c : ∀ k, w1.cell? ⟨w.heap.size, k, none⟩ = (w.alloc (.cells #[u, .int .u64 a, .int .u64 b, .int .u64 i, .string d, .bool m, .int .i64 t] 55)).cell? ⟨w.heap.size, k, none⟩ := fun k => Below.cell q (p := ⟨w.heap.size, k, none⟩) (by simp)
  refine ⟨(c 0).trans ?_, (c 1).trans ?_, (c 2).trans ?_, (c 3).trans ?_, (c 4).trans ?_, (c 5).trans ?_, (c 6).trans ?_⟩ <;> simp [go_sem]
theorem wo_wo (l : List Ver) (a b : Nat) : woV (woV l a) b = woV (woV l b) a := by
  unfold woV
  rw [List.filter_filter, List.filter_filter]
  congr 1
  funext x
  rw [Bool.and_comm]
theorem drop_zero {l L : List Ver} {id : Nat} (h : DropC l id L 0) : okP l ∧ L = woV l id ∧ ∃ i, ∃ h : i < l.length, l[i].id = id := by
  cases h with
  | yes h1 h2 => exact ⟨h1, rfl, h2⟩
/-- What is left holds the other one. -/
theorem drop_other {l : List Ver} {a b : Nat} (hl : okP l) (hab : a ≠ b) (hb : ∃ i, ∃ h : i < l.length, l[i].id = b) : DropC (woV l a) b (woV (woV l a) b) 0 := by
  refine .yes (okP_wo hl a) ?_
  obtain ⟨i, hi, e⟩ := hb
  have hm : l[i] ∈ woV l a := wo_mem.2 ⟨List.getElem_mem hi, by rw [e]; exact fun k => hab k.symm⟩
  obtain ⟨j, hj, ej⟩ := List.getElem_of_mem hm
  exact ⟨j, hj, by rw [ej, e]⟩
theorem drop_okP {l L : List Ver} {id c : Nat} (h : DropC l id L c) : okP L := by
  cases h with
  | yes h1 h2 => exact okP_wo h1 id
  | _ => exact okP_nil
theorem drop_gone {l L : List Ver} {id c : Nat} (h : DropC l id L c) : findV L id = none := by
  cases h with
  | yes h1 h2 => exact find_none (fun j hl e => (wo_mem.1 (List.getElem_mem hl)).2 e)
  | _ => rfl
/-- What was put is taken away again. -/
theorem put_back {l L : List Ver} {y : Ver} {c : Nat} (h : PutC l 1 y L c) : (c ≠ 0) ∨ (c = 0 ∧ DropC L y.id l 0 ∧ okP l) := by
  cases h with
  | on h1 h2 h3 h4 h5 h6 h7 =>
    right
    refine ⟨rfl, ?_, h1⟩
    have hn : ∀ j (hl : j < l.length), l[j].id ≠ y.id := fun j hl e => by
      rw [List.any_eq_false] at h6
      exact h6 _ (List.getElem_mem hl) (by simp [e])
    have e : woV (y :: l) y.id = l := by
      unfold woV
      rw [List.filter_cons_of_neg (by simp)]
      exact wo_none hn
    have k : DropC (y :: l) y.id (woV (y :: l) y.id) 0 := .yes (putC_ok (PutC.on h1 rfl h3 h4 h5 h6 h7)) ⟨0, by simp, rfl⟩
    rw [e] at k
    exact k
  | over h1 h2 => omega
  | _ => left; omega
set_option maxHeartbeats 4000000 in
set_option maxRecDepth 100000 in
theorem walk_all_yes (u : Value) (l : List Ver) (a b : Nat) (x : Ver) (w : World) (t0 : Vers w w.heap.size u l) (z0 : l.length ≤ maxLen) (ux : okV x) (L : List Ver) (hL : L = fewV l) (hlen : L.length ≤ 21) (hok : ∀ x ∈ L, okV x) (y : Ver) (hyd : y = oneV x) (XL YL NL : List Ver) (xc yc nc : Nat) (hX : DropC L a XL xc) (hY : DropC L b YL yc) (hN : PutC L 1 y NL nc) (hx : xc = 0) (hy0 : yc = 0) (hab : a ≠ b) (hn : nc = 0) :
    Calls Try.prog 6 #[.agg #[u, .int .u64 (a : Nat), .int .u64 (b : Nat), .int .u64 (x.id : Nat), .string x.data, .bool x.mark, .int .i64 x.tm]] w fun e w' => e = .returned (.bool true) ∧ Q w w' := by
  obtain ⟨A, c, rfl⟩ := t0.shape
  have OK := Lib.hid hok
  have T0 := Lib.hid t0
  have FW : Hid (∀ d (hu : Vers d d.heap.size (.slice A l.length c) l), Calls Try.prog 10 #[.slice A l.length c] d fun e w' => ∃ v', e = .returned v' ∧ OwnV d.heap.size w' v' L ∧ Q d w') := Lib.hid (fun d hu => by rw [hL]; exact few_any l _ d z0 hu)
  have ON := Lib.hid (fun d => one_any x d ux)
  have hy := oneV_ok ux
  rw [← hyd] at ON hy
  rw [ver, ver] at ON
  have qa : Q w (w.alloc (.cells #[.slice A l.length c, .int .u64 (a : Nat), .int .u64 (b : Nat), .int .u64 (x.id : Nat), .string x.data, .bool x.mark, .int .i64 x.tm] 55)) := (Q.refl w).alloc _
  have KS : Hid (∀ d, Q (w.alloc (.cells #[.slice A l.length c, .int .u64 (a : Nat), .int .u64 (b : Nat), .int .u64 (x.id : Nat), .string x.data, .bool x.mark, .int .i64 x.tm] 55)) d → (fun w' => w'.cell? ⟨w.heap.size, 0, none⟩ = some (.slice A l.length c) ∧ w'.cell? ⟨w.heap.size, 1, none⟩ = some (.int .u64 (a : Nat)) ∧ w'.cell? ⟨w.heap.size, 2, none⟩ = some (.int .u64 (b : Nat)) ∧ w'.cell? ⟨w.heap.size, 3, none⟩ = some (.int .u64 (x.id : Nat)) ∧ w'.cell? ⟨w.heap.size, 4, none⟩ = some (.string x.data) ∧ w'.cell? ⟨w.heap.size, 5, none⟩ = some (.bool x.mark) ∧ w'.cell? ⟨w.heap.size, 6, none⟩ = some (.int .i64 x.tm) ∧ Q (w.alloc (.cells #[.slice A l.length c, .int .u64 (a : Nat), .int .u64 (b : Nat), .int .u64 (x.id : Nat), .string x.data, .bool x.mark, .int .i64 x.tm] 55)) w') d) := Lib.hid (by
    intro d q
    obtain ⟨b0, b1, b2, b3, b4, b5, b6⟩ := turn_of q
    exact ⟨b0, b1, b2, b3, b4, b5, b6, q⟩)
  have HXL := Lib.hid (dropC_okV hX hok)
  have HYL := Lib.hid (dropC_okV hY hok)
  have HNL := Lib.hid (putC_okV hN hok hy)
  subst hx
  subst hy0
  subst hn
  obtain ⟨-, hB, hokl⟩ := (put_back hN).resolve_left (fun k => k rfl)
  have DA : Hid (∀ (d : World) (u : Value) (hu : Vers d d.heap.size u L), Calls Try.prog 20 #[u, .int .u64 (a : Nat)] d fun e w' => ∃ v', e = .returned (.tuple #[v', .int .i64 0]) ∧ OwnV d.heap.size w' v' XL ∧ Q d w') := Lib.hid (fun d u hu => drop_any L u a d XL _ hX (by omega) hu)
  have DB : Hid (∀ (d : World) (u : Value) (hu : Vers d d.heap.size u L), Calls Try.prog 20 #[u, .int .u64 (b : Nat)] d fun e w' => ∃ v', e = .returned (.tuple #[v', .int .i64 0]) ∧ OwnV d.heap.size w' v' YL ∧ Q d w') := Lib.hid (fun d u hu => drop_any L u b d YL _ hY (by omega) hu)
  have hxl := dropC_len hX
  have hyl := dropC_len hY
  have hnl := putC_len hN
  have FA : Hid (∀ (d : World) (u : Value) (hu : Vers d d.heap.size u XL), Calls Try.prog 24 #[u, .int .u64 (a : Nat)] d fun e w' => e = .returned (.tuple #[.agg #[.int .u64 0, .string ⟨#[]⟩, .bool false, .int .i64 0], .int .i64 4]) ∧ Q d w') := Lib.hid (fun d u hu => by
    have := find_any XL u a d (drop_okP hX) (by omega) hu
    rw [drop_gone hX] at this
    exact this)
  have PU : Hid (∀ (d : World) (u : Value) (hu : Vers d d.heap.size u L), Calls Try.prog 12 #[u, .int .i64 1, .agg #[.int .u64 (y.id : Nat), .string y.data, .bool y.mark, .int .i64 y.tm]] d fun e w' => ∃ v', e = .returned (.tuple #[v', .int .i64 0]) ∧ OwnV d.heap.size w' v' NL ∧ Q d w') := Lib.hid (fun d u hu => put_any L u 1 y d NL _ hN (by omega) hy hu)
  obtain ⟨hokL, eX, hbX⟩ := drop_zero hX
  obtain ⟨-, eY, hbY⟩ := drop_zero hY
  have kA := drop_other hokL hab hbY
  have kB := drop_other hokL hab.symm hbX
  rw [← eX] at kA
  rw [wo_wo, ← eX, ← eY] at kB
  have HPL := Lib.hid (dropC_okV kA HXL.out)
  have hpl := dropC_len kA
  obtain ⟨P, hP⟩ : ∃ P, P = woV XL b := ⟨_, rfl⟩
  rw [← hP] at kA kB HPL hpl
  clear hP
  have DAB : Hid (∀ (d : World) (u : Value) (hu : Vers d d.heap.size u XL), Calls Try.prog 20 #[u, .int .u64 (b : Nat)] d fun e w' => ∃ v', e = .returned (.tuple #[v', .int .i64 0]) ∧ OwnV d.heap.size w' v' P ∧ Q d w') := Lib.hid (fun d u hu => drop_any XL u b d P _ kA (by omega) hu)
  have DBA : Hid (∀ (d : World) (u : Value) (hu : Vers d d.heap.size u YL), Calls Try.prog 20 #[u, .int .u64 (a : Nat)] d fun e w' => ∃ v', e = .returned (.tuple #[v', .int .i64 0]) ∧ OwnV d.heap.size w' v' P ∧ Q d w') := Lib.hid (fun d u hu => drop_any YL u a d P _ kB (by omega) hu)
  have SP : Hid (∀ (d : World) (u u2 : Value) (hu : Vers d d.heap.size u P) (hu2 : Vers d d.heap.size u2 P), Calls Try.prog 16 #[u, u2] d fun e w' => e = .returned (.bool true) ∧ Q d w') := Lib.hid (fun d u u2 hu hu2 => same_any P u u2 d (by omega) hu hu2)
  have hab1 : ((a : Int) != (b : Int)) = true := by
    have : ¬ (a : Int) = (b : Int) := by omega
    simpa using this
  clear kA kB eX eY hbX hbY hab
  have DN : Hid (∀ (d : World) (u : Value) (hu : Vers d d.heap.size u NL), Calls Try.prog 20 #[u, .int .u64 (y.id : Nat)] d fun e w' => ∃ v', e = .returned (.tuple #[v', .int .i64 0]) ∧ OwnV d.heap.size w' v' L ∧ Q d w') := Lib.hid (fun d u hu => drop_any NL u y.id d L _ hB (by omega) hu)
  have SL : Hid (∀ (d : World) (u u2 : Value) (hu : Vers d d.heap.size u L) (hu2 : Vers d d.heap.size u2 L), Calls Try.prog 16 #[u, u2] d fun e w' => e = .returned (.bool true) ∧ Q d w') := Lib.hid (fun d u u2 hu hu2 => same_any L u u2 d (by omega) hu hu2)
  clear hB hokl
  clear hX hY hN hok hL t0 hyd
  go_enter Try.func6, Try.ntmps6
  go_upto_region 1 with fail
  go_cut [3, 4, 5, 6] from 21 to 30 (fun V a' b' g wx => a' = .int .u64 (a : Nat) ∧ b' = .int .u64 (b : Nat) ∧ (∃ gb, g = .pointer (some ⟨gb, 0, none⟩) ∧ wx.heap[gb]? = some (.cells #[.int .u64 (y.id : Nat), .string y.data, .bool y.mark, .int .i64 y.tm] 25)) ∧ Vers wx wx.heap.size V L ∧ Q w wx)
  case first =>
    refine wp_region_held_drew (S := (fun w' => w'.cell? ⟨w.heap.size, 0, none⟩ = some (.slice A l.length c) ∧ w'.cell? ⟨w.heap.size, 1, none⟩ = some (.int .u64 (a : Nat)) ∧ w'.cell? ⟨w.heap.size, 2, none⟩ = some (.int .u64 (b : Nat)) ∧ w'.cell? ⟨w.heap.size, 3, none⟩ = some (.int .u64 (x.id : Nat)) ∧ w'.cell? ⟨w.heap.size, 4, none⟩ = some (.string x.data) ∧ w'.cell? ⟨w.heap.size, 5, none⟩ = some (.bool x.mark) ∧ w'.cell? ⟨w.heap.size, 6, none⟩ = some (.int .i64 x.tm) ∧ Q (w.alloc (.cells #[.slice A l.length c, .int .u64 (a : Nat), .int .u64 (b : Nat), .int .u64 (x.id : Nat), .string x.data, .bool x.mark, .int .i64 x.tm] 55)) w')) (by kernel_rfl) (KS.out _ (Q.refl _).drew) (fun hHeld => ?_)
    refine wpAnyH_take (i := 0) (oi := _) (v := ?_) rfl (by kernel_rfl) (by kernel_rfl) (by kernel_rfl) (fun _ _ _ h => h) (Or.inl ⟨by rfl, ?_⟩) (by assumption) ?_
    rotate_left
    · (intro wx hSw; (try dsimp only at hSw); go_simp; (try with_reducible rfl))
    (try simp only [Act.put, List.getElem_toArray, List.getElem_cons_zero, List.getElem_cons_succ, List.setIfInBounds_toArray, List.set_cons_zero, List.set_cons_succ])
    refine wpAnyH_take (i := 1) (oi := _) (v := ?_) rfl (by kernel_rfl) (by kernel_rfl) (by kernel_rfl) (fun _ _ _ h => h) (Or.inl ⟨by rfl, ?_⟩) (by assumption) ?_
    rotate_left
    · (intro wx hSw; (try dsimp only at hSw); go_simp; (try with_reducible rfl))
    (try simp only [Act.put, List.getElem_toArray, List.getElem_cons_zero, List.getElem_cons_succ, List.setIfInBounds_toArray, List.set_cons_zero, List.set_cons_succ])
    refine wpAnyH_take (i := 3) (oi := _) (v := ?_) rfl (by kernel_rfl) (by kernel_rfl) (by kernel_rfl) (fun _ _ _ h => h) (Or.inl ⟨by rfl, ?_⟩) (by assumption) ?_
    rotate_left
    · (intro wx hSw; (try dsimp only at hSw); go_simp; (try with_reducible rfl))
    (try simp only [Act.put, List.getElem_toArray, List.getElem_cons_zero, List.getElem_cons_succ, List.setIfInBounds_toArray, List.set_cons_zero, List.set_cons_succ])
    refine wpAnyH_take (i := 4) (oi := _) (v := ?_) rfl (by kernel_rfl) (by kernel_rfl) (by kernel_rfl) (fun _ _ _ h => h) (Or.inl ⟨by rfl, ?_⟩) (by assumption) ?_
    rotate_left
    · (intro wx hSw; (try dsimp only at hSw); go_simp; (try with_reducible rfl))
    (try simp only [Act.put, List.getElem_toArray, List.getElem_cons_zero, List.getElem_cons_succ, List.setIfInBounds_toArray, List.set_cons_zero, List.set_cons_succ])
    refine wpAnyH_take (i := 5) (oi := _) (v := ?_) rfl (by kernel_rfl) (by kernel_rfl) (by kernel_rfl) (fun _ _ _ h => h) (Or.inl ⟨by rfl, ?_⟩) (by assumption) ?_
    rotate_left
    · (intro wx hSw; (try dsimp only at hSw); go_simp; (try with_reducible rfl))
    (try simp only [Act.put, List.getElem_toArray, List.getElem_cons_zero, List.getElem_cons_succ, List.setIfInBounds_toArray, List.set_cons_zero, List.set_cons_succ])
    refine wpAnyH_take (i := 6) (oi := _) (v := ?_) rfl (by kernel_rfl) (by kernel_rfl) (by kernel_rfl) (fun _ _ _ h => h) (Or.inl ⟨by rfl, ?_⟩) (by assumption) ?_
    rotate_left
    · (intro wx hSw; (try dsimp only at hSw); go_simp; (try with_reducible rfl))
    (try simp only [Act.put, List.getElem_toArray, List.getElem_cons_zero, List.getElem_cons_succ, List.setIfInBounds_toArray, List.set_cons_zero, List.set_cons_succ])
    refine wpAnyH_take (i := 7) (oi := _) (v := ?_) rfl (by kernel_rfl) (by kernel_rfl) (by kernel_rfl) (fun _ _ _ h => h) (Or.inl ⟨by rfl, ?_⟩) (by assumption) ?_
    rotate_left
    · (intro wx hSw; (try dsimp only at hSw); go_simp; (try with_reducible rfl))
    (try simp only [Act.put, List.getElem_toArray, List.getElem_cons_zero, List.getElem_cons_succ, List.setIfInBounds_toArray, List.set_cons_zero, List.set_cons_succ])
    refine wpAnyH_take (i := 8) (oi := _) (v := ?_) rfl (by kernel_rfl) (by kernel_rfl) (by kernel_rfl) (fun _ _ _ h => h) (Or.inl ⟨by rfl, ?_⟩) (by assumption) ?_
    rotate_left
    · (intro wx hSw; (try dsimp only at hSw); go_simp; (try with_reducible rfl))
    (try simp only [Act.put, List.getElem_toArray, List.getElem_cons_zero, List.getElem_cons_succ, List.setIfInBounds_toArray, List.set_cons_zero, List.set_cons_succ])
    refine wpAnyH_ready (rs := [2, 10]) (by kernel_rfl) (by simp) ?_
    refine AllReadyH.cons (o := _) rfl (fun K hK => ?_) (AllReadyH.cons (o := _) rfl (fun K hK => ?_) AllReadyH.nil)
    · go_simp
      go_at_call 10
      refine (FW.out _ (T0.out.on (qa.trans (Q.refl _).drew))).mono ?_
      rintro e wa ⟨v1, rfl, o1, qf⟩
      have qx := (Q.refl _).drew.trans qf
      refine hK.out _ _ (KS.out _ qx) (fun hHeld => ?_)
      clear hK K
      (try simp only [Act.put, List.getElem_toArray, List.getElem_cons_zero, List.getElem_cons_succ, List.setIfInBounds_toArray, List.set_cons_zero, List.set_cons_succ])
      refine wpAnyH_ready (rs := [9, 10]) (by kernel_rfl) (by simp) ?_
      refine AllReadyH.cons (o := _) rfl (fun K hK => ?_) (AllReadyH.cons (o := _) rfl (fun K hK => ?_) AllReadyH.nil)
      · go_simp
        go_at_call 11
        refine (ON.out _).mono ?_
        rintro e wb ⟨rfl, qo⟩
        refine hK.out _ _ (KS.out _ (qx.trans qo)) (fun hHeld => ?_)
        clear hK K
        (try simp only [Act.put, List.getElem_toArray, List.getElem_cons_zero, List.getElem_cons_succ, List.setIfInBounds_toArray, List.set_cons_zero, List.set_cons_succ])
        refine wpAnyH_ready (rs := [10]) (by kernel_rfl) (by simp) ?_
        refine AllReadyH.cons (o := _) rfl (fun K hK => ?_) AllReadyH.nil
        go_simp
        refine hK.out _ _ (KS.out _ ((qx.trans qo).alloc _)) (fun hHeld => ?_)
        clear hK K
        (try simp only [Act.put, List.getElem_toArray, List.getElem_cons_zero, List.getElem_cons_succ, List.setIfInBounds_toArray, List.set_cons_zero, List.set_cons_succ])
        refine wpAnyH_take (i := 11) (oi := _) (v := ?_) rfl (by kernel_rfl) (by kernel_rfl) (by kernel_rfl) (fun _ _ _ h => h) (Or.inl ⟨by rfl, ?_⟩) (by assumption) ?_
        rotate_left
        · (intro wx hSw; (try dsimp only at hSw); go_simp; (try with_reducible rfl))
        (try simp only [Act.put, List.getElem_toArray, List.getElem_cons_zero, List.getElem_cons_succ, List.setIfInBounds_toArray, List.set_cons_zero, List.set_cons_succ])
        refine wpAnyH_take (i := 12) (oi := _) (v := ?_) rfl (by kernel_rfl) (by kernel_rfl) (by kernel_rfl) (fun _ _ _ h => h) (Or.inl ⟨by rfl, ?_⟩) (by assumption) ?_
        rotate_left
        · (intro wx hSw; (try dsimp only at hSw); go_simp; (try with_reducible rfl))
        (try simp only [Act.put, List.getElem_toArray, List.getElem_cons_zero, List.getElem_cons_succ, List.setIfInBounds_toArray, List.set_cons_zero, List.set_cons_succ])
        refine wpAnyH_take (i := 13) (oi := _) (v := ?_) rfl (by kernel_rfl) (by kernel_rfl) (by kernel_rfl) (fun _ _ _ h => h) (Or.inl ⟨by rfl, ?_⟩) (by assumption) ?_
        rotate_left
        · (intro wx hSw; (try dsimp only at hSw); go_simp; (try with_reducible rfl))
        (try simp only [Act.put, List.getElem_toArray, List.getElem_cons_zero, List.getElem_cons_succ, List.setIfInBounds_toArray, List.set_cons_zero, List.set_cons_succ])
        refine wpAnyH_ready (rs := [14]) (by kernel_rfl) (by simp) ?_
        refine AllReadyH.cons (o := _) rfl (fun K hK => ?_) AllReadyH.nil
        go_simp
        refine hK.out _ _ (KS.out _ ((qx.trans qo).alloc _)) (fun hHeld => ?_)
        clear hK K
        (try simp only [Act.put, List.getElem_toArray, List.getElem_cons_zero, List.getElem_cons_succ, List.setIfInBounds_toArray, List.set_cons_zero, List.set_cons_succ])
        refine wpAnyH_done (by kernel_rfl) ?_ _
        go_wp2_with fail
        go_meet
        exact ⟨rfl, rfl, ⟨_, rfl, heap_alloc_new wb _⟩, ((o1.vers OK.out).on (qo.alloc _)), qa.trans ((qx.trans qo).alloc _)⟩
      · go_simp
        refine hK.out _ _ (KS.out _ (qx.alloc _)) (fun hHeld => ?_)
        clear hK K
        (try simp only [Act.put, List.getElem_toArray, List.getElem_cons_zero, List.getElem_cons_succ, List.setIfInBounds_toArray, List.set_cons_zero, List.set_cons_succ])
        refine wpAnyH_ready (rs := [9]) (by kernel_rfl) (by simp) ?_
        refine AllReadyH.cons (o := _) rfl (fun K hK => ?_) AllReadyH.nil
        go_simp
        go_at_call 11
        refine (ON.out _).mono ?_
        rintro e wb ⟨rfl, qo⟩
        have qz := (qx.alloc _).trans qo
        refine hK.out _ _ (KS.out _ qz) (fun hHeld => ?_)
        clear hK K
        (try simp only [Act.put, List.getElem_toArray, List.getElem_cons_zero, List.getElem_cons_succ, List.setIfInBounds_toArray, List.set_cons_zero, List.set_cons_succ])
        refine wpAnyH_take (i := 11) (oi := _) (v := ?_) rfl (by kernel_rfl) (by kernel_rfl) (by kernel_rfl) (fun _ _ _ h => h) (Or.inl ⟨by rfl, ?_⟩) (by assumption) ?_
        rotate_left
        · (intro wx hSw; (try dsimp only at hSw); go_simp; (try with_reducible rfl))
        (try simp only [Act.put, List.getElem_toArray, List.getElem_cons_zero, List.getElem_cons_succ, List.setIfInBounds_toArray, List.set_cons_zero, List.set_cons_succ])
        refine wpAnyH_take (i := 12) (oi := _) (v := ?_) rfl (by kernel_rfl) (by kernel_rfl) (by kernel_rfl) (fun _ _ _ h => h) (Or.inl ⟨by rfl, ?_⟩) (by assumption) ?_
        rotate_left
        · (intro wx hSw; (try dsimp only at hSw); go_simp; (try with_reducible rfl))
        (try simp only [Act.put, List.getElem_toArray, List.getElem_cons_zero, List.getElem_cons_succ, List.setIfInBounds_toArray, List.set_cons_zero, List.set_cons_succ])
        refine wpAnyH_take (i := 13) (oi := _) (v := ?_) rfl (by kernel_rfl) (by kernel_rfl) (by kernel_rfl) (fun _ _ _ h => h) (Or.inl ⟨by rfl, ?_⟩) (by assumption) ?_
        rotate_left
        · (intro wx hSw; (try dsimp only at hSw); go_simp; (try with_reducible rfl))
        (try simp only [Act.put, List.getElem_toArray, List.getElem_cons_zero, List.getElem_cons_succ, List.setIfInBounds_toArray, List.set_cons_zero, List.set_cons_succ])
        obtain ⟨b0, b1, b2, b3⟩ := box_of qo
        obtain ⟨f0, f1, f2, f3⟩ := box_free qo
        have hbk := blk_of qo
        refine wpAnyH_ready (rs := [14]) (by kernel_rfl) (by simp) ?_
        refine AllReadyH.cons (o := _) rfl (fun K hK => ?_) AllReadyH.nil
        go_simp
        refine hK.out _ _ (KS.out _ ((((qz.set (Q.size qx) _).set (Q.size qx) _).set (Q.size qx) _).set (Q.size qx) _)) (fun hHeld => ?_)
        clear hK K
        (try simp only [Act.put, List.getElem_toArray, List.getElem_cons_zero, List.getElem_cons_succ, List.setIfInBounds_toArray, List.set_cons_zero, List.set_cons_succ])
        refine wpAnyH_done (by kernel_rfl) ?_ _
        go_wp2_with fail
        go_meet
        exact ⟨rfl, rfl, ⟨_, rfl, blk_set hbk⟩, ((o1.vers OK.out).on (((((((Q.refl _).alloc _).trans qo).set (Nat.le_refl _) _).set (Nat.le_refl _) _).set (Nat.le_refl _) _).set (Nat.le_refl _) _)), qa.trans ((((qz.set (Q.size qx) _).set (Q.size qx) _).set (Q.size qx) _).set (Q.size qx) _)⟩
    · go_simp
      refine hK.out _ _ (KS.out _ ((Q.refl _).alloc _).drew) (fun hHeld => ?_)
      clear hK K
      (try simp only [Act.put, List.getElem_toArray, List.getElem_cons_zero, List.getElem_cons_succ, List.setIfInBounds_toArray, List.set_cons_zero, List.set_cons_succ])
      refine wpAnyH_ready (rs := [2]) (by kernel_rfl) (by simp) ?_
      refine AllReadyH.cons (o := _) rfl (fun K hK => ?_) AllReadyH.nil
      go_simp
      go_at_call 10
      refine (FW.out _ (T0.out.on (qa.trans ((Q.refl _).alloc _).drew))).mono ?_
      rintro e wa ⟨v1, rfl, o1, qf⟩
      have qx := ((Q.refl _).alloc _).drew.trans qf
      refine hK.out _ _ (KS.out _ qx) (fun hHeld => ?_)
      clear hK K
      (try simp only [Act.put, List.getElem_toArray, List.getElem_cons_zero, List.getElem_cons_succ, List.setIfInBounds_toArray, List.set_cons_zero, List.set_cons_succ])
      refine wpAnyH_ready (rs := [9]) (by kernel_rfl) (by simp) ?_
      refine AllReadyH.cons (o := _) rfl (fun K hK => ?_) AllReadyH.nil
      go_simp
      go_at_call 11
      refine (ON.out _).mono ?_
      rintro e wb ⟨rfl, qo0⟩
      have qz := qx.trans qo0
      have qo := (Q.drew (Q.refl _)).trans (qf.trans qo0)
      refine hK.out _ _ (KS.out _ qz) (fun hHeld => ?_)
      clear hK K
      (try simp only [Act.put, List.getElem_toArray, List.getElem_cons_zero, List.getElem_cons_succ, List.setIfInBounds_toArray, List.set_cons_zero, List.set_cons_succ])
      refine wpAnyH_take (i := 11) (oi := _) (v := ?_) rfl (by kernel_rfl) (by kernel_rfl) (by kernel_rfl) (fun _ _ _ h => h) (Or.inl ⟨by rfl, ?_⟩) (by assumption) ?_
      rotate_left
      · (intro wx hSw; (try dsimp only at hSw); go_simp; (try with_reducible rfl))
      (try simp only [Act.put, List.getElem_toArray, List.getElem_cons_zero, List.getElem_cons_succ, List.setIfInBounds_toArray, List.set_cons_zero, List.set_cons_succ])
      refine wpAnyH_take (i := 12) (oi := _) (v := ?_) rfl (by kernel_rfl) (by kernel_rfl) (by kernel_rfl) (fun _ _ _ h => h) (Or.inl ⟨by rfl, ?_⟩) (by assumption) ?_
      rotate_left
      · (intro wx hSw; (try dsimp only at hSw); go_simp; (try with_reducible rfl))
      (try simp only [Act.put, List.getElem_toArray, List.getElem_cons_zero, List.getElem_cons_succ, List.setIfInBounds_toArray, List.set_cons_zero, List.set_cons_succ])
      refine wpAnyH_take (i := 13) (oi := _) (v := ?_) rfl (by kernel_rfl) (by kernel_rfl) (by kernel_rfl) (fun _ _ _ h => h) (Or.inl ⟨by rfl, ?_⟩) (by assumption) ?_
      rotate_left
      · (intro wx hSw; (try dsimp only at hSw); go_simp; (try with_reducible rfl))
      (try simp only [Act.put, List.getElem_toArray, List.getElem_cons_zero, List.getElem_cons_succ, List.setIfInBounds_toArray, List.set_cons_zero, List.set_cons_succ])
      obtain ⟨b0, b1, b2, b3⟩ := box_of qo
      obtain ⟨f0, f1, f2, f3⟩ := box_free qo
      have hbk := blk_of qo
      have hsz1 : (w.alloc (.cells #[.slice A l.length c, .int .u64 (a : Nat), .int .u64 (b : Nat), .int .u64 (x.id : Nat), .string x.data, .bool x.mark, .int .i64 x.tm] 55)).heap.size = w.heap.size + 1 := World.size_alloc _ _
      rw [hsz1] at b0 b1 b2 b3 f0 f1 f2 f3 hbk
      refine wpAnyH_ready (rs := [14]) (by kernel_rfl) (by simp) ?_
      refine AllReadyH.cons (o := _) rfl (fun K hK => ?_) AllReadyH.nil
      go_simp
      refine hK.out _ _ (KS.out _ ((((qz.set (g := w.heap.size + 1) (by simp) _).set (g := w.heap.size + 1) (by simp) _).set (g := w.heap.size + 1) (by simp) _).set (g := w.heap.size + 1) (by simp) _)) (fun hHeld => ?_)
      clear hK K
      (try simp only [Act.put, List.getElem_toArray, List.getElem_cons_zero, List.getElem_cons_succ, List.setIfInBounds_toArray, List.set_cons_zero, List.set_cons_succ])
      refine wpAnyH_done (by kernel_rfl) ?_ _
      go_wp2_with fail
      go_meet
      exact ⟨rfl, rfl, ⟨_, rfl, blk_set hbk⟩, (((((OwnV.on o1 qo0).setAt (by simp)).setAt (by simp)).setAt (by simp)).setAt (by simp)).vers OK.out, qa.trans ((((qz.set (g := w.heap.size + 1) (by simp) _).set (g := w.heap.size + 1) (by simp) _).set (g := w.heap.size + 1) (by simp) _).set (g := w.heap.size + 1) (by simp) _)⟩
  case rest =>
  rename_i wc
  obtain ⟨rfl, rfl, ⟨gb, rfl, hb⟩, t1, qc⟩ := hcut
  have t1 := Lib.hid t1
  have B := Lib.hid (fun d (q : Q wc d) => blk_cell hb q)
  clear FW ON T0 KS hb
  go_wp2_with fail
  refine (DA.out _ _ t1.out).mono ?_
  rintro e w1 ⟨u2, rfl, o2, q1⟩
  have ta := Lib.hid (o2.vers HXL.out)
  clear o2
  go_wp2_with fail
  refine (DB.out _ _ (t1.out.on ((Q.refl _).trans q1))).mono ?_
  rintro e w2 ⟨u3, rfl, o3, q2⟩
  have tb := Lib.hid (o3.vers HYL.out)
  clear o3
  go_wp2_with fail
  refine (DAB.out _ _ (ta.out.on ((Q.refl _).trans q2))).mono ?_
  rintro e w3 ⟨u4, rfl, o4, q3⟩
  have t4 := Lib.hid (o4.vers HPL.out)
  clear o4
  go_wp2_with fail
  refine (DBA.out _ _ (tb.out.on ((Q.refl _).trans q3))).mono ?_
  rintro e w4 ⟨u5, rfl, o5, q4⟩
  have t5 := Lib.hid (o5.vers HPL.out)
  clear o5
  go_wp2_with fail
  refine (SP.out _ _ _ (t4.out.on ((Q.refl _).trans q4)) (t5.out.on (Q.refl _))).mono ?_
  rintro e w5 ⟨rfl, q5⟩
  go_wp2_with fail
  refine (FA.out _ _ (ta.out.on (((((Q.refl _).trans q2).trans q3).trans q4).trans q5))).mono ?_
  rintro e w6 ⟨rfl, q6⟩
  obtain ⟨b0, b1, b2, b3⟩ := B.out _ ((((((((Q.refl _).trans q1).trans q2).trans q3).trans q4).trans q5).trans q6).alloc (.cells #[.int .u64 0, .string ⟨#[]⟩, .bool false, .int .i64 0] 25))
  go_wp2_with fail
  refine (PU.out _ _ (t1.out.on ((((((((Q.refl _).trans q1).trans q2).trans q3).trans q4).trans q5).trans q6).alloc _))).mono ?_
  rintro e w7 ⟨u6, rfl, o6, q7⟩
  have t6 := Lib.hid (o6.vers HNL.out)
  clear o6 b0 b1 b2 b3
  obtain ⟨b0, b1, b2, b3⟩ := B.out _ (((((((((Q.refl _).trans q1).trans q2).trans q3).trans q4).trans q5).trans q6).alloc (.cells #[.int .u64 0, .string ⟨#[]⟩, .bool false, .int .i64 0] 25)).trans q7)
  go_wp2_with fail
  refine (DN.out _ _ (t6.out.on (Q.refl _))).mono ?_
  rintro e w8 ⟨u7, rfl, o7, q8⟩
  have t7 := Lib.hid (o7.vers OK.out)
  clear o7 b0 b1 b2 b3
  go_wp2_with fail
  refine (SL.out _ _ _ (t7.out.on (Q.refl _)) (t1.out.on ((((((((((Q.refl _).trans q1).trans q2).trans q3).trans q4).trans q5).trans q6).alloc _).trans q7).trans q8))).mono ?_
  rintro e w9 ⟨rfl, q9⟩
  go_wp2_with fail
  refine (awake_any _).mono ?_
  rintro e w10 ⟨rfl, q10⟩
  go_wp2
  go_ret
  exact ⟨rfl, qc.trans ((((((((((((Q.refl _).trans q1).trans q2).trans q3).trans q4).trans q5).trans q6).alloc _).trans q7).trans q8).trans q9).trans q10)⟩
set_option maxHeartbeats 4000000 in
set_option maxRecDepth 100000 in
theorem walk_all_no (u : Value) (l : List Ver) (a b : Nat) (x : Ver) (w : World) (t0 : Vers w w.heap.size u l) (z0 : l.length ≤ maxLen) (ux : okV x) (L : List Ver) (hL : L = fewV l) (hlen : L.length ≤ 21) (hok : ∀ x ∈ L, okV x) (y : Ver) (hyd : y = oneV x) (XL YL NL : List Ver) (xc yc nc : Nat) (hX : DropC L a XL xc) (hY : DropC L b YL yc) (hN : PutC L 1 y NL nc) (hx : xc = 0) (hy0 : yc = 0) (hab : a ≠ b) (hn : nc ≠ 0) :
    Calls Try.prog 6 #[.agg #[u, .int .u64 (a : Nat), .int .u64 (b : Nat), .int .u64 (x.id : Nat), .string x.data, .bool x.mark, .int .i64 x.tm]] w fun e w' => e = .returned (.bool true) ∧ Q w w' := by
  obtain ⟨A, c, rfl⟩ := t0.shape
  have OK := Lib.hid hok
  have T0 := Lib.hid t0
  have FW : Hid (∀ d (hu : Vers d d.heap.size (.slice A l.length c) l), Calls Try.prog 10 #[.slice A l.length c] d fun e w' => ∃ v', e = .returned v' ∧ OwnV d.heap.size w' v' L ∧ Q d w') := Lib.hid (fun d hu => by rw [hL]; exact few_any l _ d z0 hu)
  have ON := Lib.hid (fun d => one_any x d ux)
  have hy := oneV_ok ux
  rw [← hyd] at ON hy
  rw [ver, ver] at ON
  have qa : Q w (w.alloc (.cells #[.slice A l.length c, .int .u64 (a : Nat), .int .u64 (b : Nat), .int .u64 (x.id : Nat), .string x.data, .bool x.mark, .int .i64 x.tm] 55)) := (Q.refl w).alloc _
  have KS : Hid (∀ d, Q (w.alloc (.cells #[.slice A l.length c, .int .u64 (a : Nat), .int .u64 (b : Nat), .int .u64 (x.id : Nat), .string x.data, .bool x.mark, .int .i64 x.tm] 55)) d → (fun w' => w'.cell? ⟨w.heap.size, 0, none⟩ = some (.slice A l.length c) ∧ w'.cell? ⟨w.heap.size, 1, none⟩ = some (.int .u64 (a : Nat)) ∧ w'.cell? ⟨w.heap.size, 2, none⟩ = some (.int .u64 (b : Nat)) ∧ w'.cell? ⟨w.heap.size, 3, none⟩ = some (.int .u64 (x.id : Nat)) ∧ w'.cell? ⟨w.heap.size, 4, none⟩ = some (.string x.data) ∧ w'.cell? ⟨w.heap.size, 5, none⟩ = some (.bool x.mark) ∧ w'.cell? ⟨w.heap.size, 6, none⟩ = some (.int .i64 x.tm) ∧ Q (w.alloc (.cells #[.slice A l.length c, .int .u64 (a : Nat), .int .u64 (b : Nat), .int .u64 (x.id : Nat), .string x.data, .bool x.mark, .int .i64 x.tm] 55)) w') d) := Lib.hid (by
    intro d q
    obtain ⟨b0, b1, b2, b3, b4, b5, b6⟩ := turn_of q
    exact ⟨b0, b1, b2, b3, b4, b5, b6, q⟩)
  have HXL := Lib.hid (dropC_okV hX hok)
  have HYL := Lib.hid (dropC_okV hY hok)
  have HNL := Lib.hid (putC_okV hN hok hy)
  subst hx
  subst hy0
  have DA : Hid (∀ (d : World) (u : Value) (hu : Vers d d.heap.size u L), Calls Try.prog 20 #[u, .int .u64 (a : Nat)] d fun e w' => ∃ v', e = .returned (.tuple #[v', .int .i64 0]) ∧ OwnV d.heap.size w' v' XL ∧ Q d w') := Lib.hid (fun d u hu => drop_any L u a d XL _ hX (by omega) hu)
  have DB : Hid (∀ (d : World) (u : Value) (hu : Vers d d.heap.size u L), Calls Try.prog 20 #[u, .int .u64 (b : Nat)] d fun e w' => ∃ v', e = .returned (.tuple #[v', .int .i64 0]) ∧ OwnV d.heap.size w' v' YL ∧ Q d w') := Lib.hid (fun d u hu => drop_any L u b d YL _ hY (by omega) hu)
  have hxl := dropC_len hX
  have hyl := dropC_len hY
  have hnl := putC_len hN
  have FA : Hid (∀ (d : World) (u : Value) (hu : Vers d d.heap.size u XL), Calls Try.prog 24 #[u, .int .u64 (a : Nat)] d fun e w' => e = .returned (.tuple #[.agg #[.int .u64 0, .string ⟨#[]⟩, .bool false, .int .i64 0], .int .i64 4]) ∧ Q d w') := Lib.hid (fun d u hu => by
    have := find_any XL u a d (drop_okP hX) (by omega) hu
    rw [drop_gone hX] at this
    exact this)
  have PU : Hid (∀ (d : World) (u : Value) (hu : Vers d d.heap.size u L), Calls Try.prog 12 #[u, .int .i64 1, .agg #[.int .u64 (y.id : Nat), .string y.data, .bool y.mark, .int .i64 y.tm]] d fun e w' => ∃ v', e = .returned (.tuple #[v', .int .i64 (nc : Nat)]) ∧ OwnV d.heap.size w' v' NL ∧ Q d w') := Lib.hid (fun d u hu => put_any L u 1 y d NL _ hN (by omega) hy hu)
  obtain ⟨hokL, eX, hbX⟩ := drop_zero hX
  obtain ⟨-, eY, hbY⟩ := drop_zero hY
  have kA := drop_other hokL hab hbY
  have kB := drop_other hokL hab.symm hbX
  rw [← eX] at kA
  rw [wo_wo, ← eX, ← eY] at kB
  have HPL := Lib.hid (dropC_okV kA HXL.out)
  have hpl := dropC_len kA
  obtain ⟨P, hP⟩ : ∃ P, P = woV XL b := ⟨_, rfl⟩
  rw [← hP] at kA kB HPL hpl
  clear hP
  have DAB : Hid (∀ (d : World) (u : Value) (hu : Vers d d.heap.size u XL), Calls Try.prog 20 #[u, .int .u64 (b : Nat)] d fun e w' => ∃ v', e = .returned (.tuple #[v', .int .i64 0]) ∧ OwnV d.heap.size w' v' P ∧ Q d w') := Lib.hid (fun d u hu => drop_any XL u b d P _ kA (by omega) hu)
  have DBA : Hid (∀ (d : World) (u : Value) (hu : Vers d d.heap.size u YL), Calls Try.prog 20 #[u, .int .u64 (a : Nat)] d fun e w' => ∃ v', e = .returned (.tuple #[v', .int .i64 0]) ∧ OwnV d.heap.size w' v' P ∧ Q d w') := Lib.hid (fun d u hu => drop_any YL u a d P _ kB (by omega) hu)
  have SP : Hid (∀ (d : World) (u u2 : Value) (hu : Vers d d.heap.size u P) (hu2 : Vers d d.heap.size u2 P), Calls Try.prog 16 #[u, u2] d fun e w' => e = .returned (.bool true) ∧ Q d w') := Lib.hid (fun d u u2 hu hu2 => same_any P u u2 d (by omega) hu hu2)
  have hab1 : ((a : Int) != (b : Int)) = true := by
    have : ¬ (a : Int) = (b : Int) := by omega
    simpa using this
  clear kA kB eX eY hbX hbY hab
  have hn1 : ((nc : Int) != 0) = true := by
    have : ¬ (nc : Int) = 0 := by omega
    simpa using this
  clear hn
  clear hX hY hN hok hL t0 hyd
  go_enter Try.func6, Try.ntmps6
  go_upto_region 1 with fail
  go_cut [3, 4, 5, 6] from 21 to 30 (fun V a' b' g wx => a' = .int .u64 (a : Nat) ∧ b' = .int .u64 (b : Nat) ∧ (∃ gb, g = .pointer (some ⟨gb, 0, none⟩) ∧ wx.heap[gb]? = some (.cells #[.int .u64 (y.id : Nat), .string y.data, .bool y.mark, .int .i64 y.tm] 25)) ∧ Vers wx wx.heap.size V L ∧ Q w wx)
  case first =>
    refine wp_region_held_drew (S := (fun w' => w'.cell? ⟨w.heap.size, 0, none⟩ = some (.slice A l.length c) ∧ w'.cell? ⟨w.heap.size, 1, none⟩ = some (.int .u64 (a : Nat)) ∧ w'.cell? ⟨w.heap.size, 2, none⟩ = some (.int .u64 (b : Nat)) ∧ w'.cell? ⟨w.heap.size, 3, none⟩ = some (.int .u64 (x.id : Nat)) ∧ w'.cell? ⟨w.heap.size, 4, none⟩ = some (.string x.data) ∧ w'.cell? ⟨w.heap.size, 5, none⟩ = some (.bool x.mark) ∧ w'.cell? ⟨w.heap.size, 6, none⟩ = some (.int .i64 x.tm) ∧ Q (w.alloc (.cells #[.slice A l.length c, .int .u64 (a : Nat), .int .u64 (b : Nat), .int .u64 (x.id : Nat), .string x.data, .bool x.mark, .int .i64 x.tm] 55)) w')) (by kernel_rfl) (KS.out _ (Q.refl _).drew) (fun hHeld => ?_)
    refine wpAnyH_take (i := 0) (oi := _) (v := ?_) rfl (by kernel_rfl) (by kernel_rfl) (by kernel_rfl) (fun _ _ _ h => h) (Or.inl ⟨by rfl, ?_⟩) (by assumption) ?_
    rotate_left
    · (intro wx hSw; (try dsimp only at hSw); go_simp; (try with_reducible rfl))
    (try simp only [Act.put, List.getElem_toArray, List.getElem_cons_zero, List.getElem_cons_succ, List.setIfInBounds_toArray, List.set_cons_zero, List.set_cons_succ])
    refine wpAnyH_take (i := 1) (oi := _) (v := ?_) rfl (by kernel_rfl) (by kernel_rfl) (by kernel_rfl) (fun _ _ _ h => h) (Or.inl ⟨by rfl, ?_⟩) (by assumption) ?_
    rotate_left
    · (intro wx hSw; (try dsimp only at hSw); go_simp; (try with_reducible rfl))
    (try simp only [Act.put, List.getElem_toArray, List.getElem_cons_zero, List.getElem_cons_succ, List.setIfInBounds_toArray, List.set_cons_zero, List.set_cons_succ])
    refine wpAnyH_take (i := 3) (oi := _) (v := ?_) rfl (by kernel_rfl) (by kernel_rfl) (by kernel_rfl) (fun _ _ _ h => h) (Or.inl ⟨by rfl, ?_⟩) (by assumption) ?_
    rotate_left
    · (intro wx hSw; (try dsimp only at hSw); go_simp; (try with_reducible rfl))
    (try simp only [Act.put, List.getElem_toArray, List.getElem_cons_zero, List.getElem_cons_succ, List.setIfInBounds_toArray, List.set_cons_zero, List.set_cons_succ])
    refine wpAnyH_take (i := 4) (oi := _) (v := ?_) rfl (by kernel_rfl) (by kernel_rfl) (by kernel_rfl) (fun _ _ _ h => h) (Or.inl ⟨by rfl, ?_⟩) (by assumption) ?_
    rotate_left
    · (intro wx hSw; (try dsimp only at hSw); go_simp; (try with_reducible rfl))
    (try simp only [Act.put, List.getElem_toArray, List.getElem_cons_zero, List.getElem_cons_succ, List.setIfInBounds_toArray, List.set_cons_zero, List.set_cons_succ])
    refine wpAnyH_take (i := 5) (oi := _) (v := ?_) rfl (by kernel_rfl) (by kernel_rfl) (by kernel_rfl) (fun _ _ _ h => h) (Or.inl ⟨by rfl, ?_⟩) (by assumption) ?_
    rotate_left
    · (intro wx hSw; (try dsimp only at hSw); go_simp; (try with_reducible rfl))
    (try simp only [Act.put, List.getElem_toArray, List.getElem_cons_zero, List.getElem_cons_succ, List.setIfInBounds_toArray, List.set_cons_zero, List.set_cons_succ])
    refine wpAnyH_take (i := 6) (oi := _) (v := ?_) rfl (by kernel_rfl) (by kernel_rfl) (by kernel_rfl) (fun _ _ _ h => h) (Or.inl ⟨by rfl, ?_⟩) (by assumption) ?_
    rotate_left
    · (intro wx hSw; (try dsimp only at hSw); go_simp; (try with_reducible rfl))
    (try simp only [Act.put, List.getElem_toArray, List.getElem_cons_zero, List.getElem_cons_succ, List.setIfInBounds_toArray, List.set_cons_zero, List.set_cons_succ])
    refine wpAnyH_take (i := 7) (oi := _) (v := ?_) rfl (by kernel_rfl) (by kernel_rfl) (by kernel_rfl) (fun _ _ _ h => h) (Or.inl ⟨by rfl, ?_⟩) (by assumption) ?_
    rotate_left
    · (intro wx hSw; (try dsimp only at hSw); go_simp; (try with_reducible rfl))
    (try simp only [Act.put, List.getElem_toArray, List.getElem_cons_zero, List.getElem_cons_succ, List.setIfInBounds_toArray, List.set_cons_zero, List.set_cons_succ])
    refine wpAnyH_take (i := 8) (oi := _) (v := ?_) rfl (by kernel_rfl) (by kernel_rfl) (by kernel_rfl) (fun _ _ _ h => h) (Or.inl ⟨by rfl, ?_⟩) (by assumption) ?_
    rotate_left
    · (intro wx hSw; (try dsimp only at hSw); go_simp; (try with_reducible rfl))
    (try simp only [Act.put, List.getElem_toArray, List.getElem_cons_zero, List.getElem_cons_succ, List.setIfInBounds_toArray, List.set_cons_zero, List.set_cons_succ])
    refine wpAnyH_ready (rs := [2, 10]) (by kernel_rfl) (by simp) ?_
    refine AllReadyH.cons (o := _) rfl (fun K hK => ?_) (AllReadyH.cons (o := _) rfl (fun K hK => ?_) AllReadyH.nil)
    · go_simp
      go_at_call 10
      refine (FW.out _ (T0.out.on (qa.trans (Q.refl _).drew))).mono ?_
      rintro e wa ⟨v1, rfl, o1, qf⟩
      have qx := (Q.refl _).drew.trans qf
      refine hK.out _ _ (KS.out _ qx) (fun hHeld => ?_)
      clear hK K
      (try simp only [Act.put, List.getElem_toArray, List.getElem_cons_zero, List.getElem_cons_succ, List.setIfInBounds_toArray, List.set_cons_zero, List.set_cons_succ])
      refine wpAnyH_ready (rs := [9, 10]) (by kernel_rfl) (by simp) ?_
      refine AllReadyH.cons (o := _) rfl (fun K hK => ?_) (AllReadyH.cons (o := _) rfl (fun K hK => ?_) AllReadyH.nil)
      · go_simp
        go_at_call 11
        refine (ON.out _).mono ?_
        rintro e wb ⟨rfl, qo⟩
        refine hK.out _ _ (KS.out _ (qx.trans qo)) (fun hHeld => ?_)
        clear hK K
        (try simp only [Act.put, List.getElem_toArray, List.getElem_cons_zero, List.getElem_cons_succ, List.setIfInBounds_toArray, List.set_cons_zero, List.set_cons_succ])
        refine wpAnyH_ready (rs := [10]) (by kernel_rfl) (by simp) ?_
        refine AllReadyH.cons (o := _) rfl (fun K hK => ?_) AllReadyH.nil
        go_simp
        refine hK.out _ _ (KS.out _ ((qx.trans qo).alloc _)) (fun hHeld => ?_)
        clear hK K
        (try simp only [Act.put, List.getElem_toArray, List.getElem_cons_zero, List.getElem_cons_succ, List.setIfInBounds_toArray, List.set_cons_zero, List.set_cons_succ])
        refine wpAnyH_take (i := 11) (oi := _) (v := ?_) rfl (by kernel_rfl) (by kernel_rfl) (by kernel_rfl) (fun _ _ _ h => h) (Or.inl ⟨by rfl, ?_⟩) (by assumption) ?_
        rotate_left
        · (intro wx hSw; (try dsimp only at hSw); go_simp; (try with_reducible rfl))
        (try simp only [Act.put, List.getElem_toArray, List.getElem_cons_zero, List.getElem_cons_succ, List.setIfInBounds_toArray, List.set_cons_zero, List.set_cons_succ])
        refine wpAnyH_take (i := 12) (oi := _) (v := ?_) rfl (by kernel_rfl) (by kernel_rfl) (by kernel_rfl) (fun _ _ _ h => h) (Or.inl ⟨by rfl, ?_⟩) (by assumption) ?_
        rotate_left
        · (intro wx hSw; (try dsimp only at hSw); go_simp; (try with_reducible rfl))
        (try simp only [Act.put, List.getElem_toArray, List.getElem_cons_zero, List.getElem_cons_succ, List.setIfInBounds_toArray, List.set_cons_zero, List.set_cons_succ])
        refine wpAnyH_take (i := 13) (oi := _) (v := ?_) rfl (by kernel_rfl) (by kernel_rfl) (by kernel_rfl) (fun _ _ _ h => h) (Or.inl ⟨by rfl, ?_⟩) (by assumption) ?_
        rotate_left
        · (intro wx hSw; (try dsimp only at hSw); go_simp; (try with_reducible rfl))
        (try simp only [Act.put, List.getElem_toArray, List.getElem_cons_zero, List.getElem_cons_succ, List.setIfInBounds_toArray, List.set_cons_zero, List.set_cons_succ])
        refine wpAnyH_ready (rs := [14]) (by kernel_rfl) (by simp) ?_
        refine AllReadyH.cons (o := _) rfl (fun K hK => ?_) AllReadyH.nil
        go_simp
        refine hK.out _ _ (KS.out _ ((qx.trans qo).alloc _)) (fun hHeld => ?_)
        clear hK K
        (try simp only [Act.put, List.getElem_toArray, List.getElem_cons_zero, List.getElem_cons_succ, List.setIfInBounds_toArray, List.set_cons_zero, List.set_cons_succ])
        refine wpAnyH_done (by kernel_rfl) ?_ _
        go_wp2_with fail
        go_meet
        exact ⟨rfl, rfl, ⟨_, rfl, heap_alloc_new wb _⟩, ((o1.vers OK.out).on (qo.alloc _)), qa.trans ((qx.trans qo).alloc _)⟩
      · go_simp
        refine hK.out _ _ (KS.out _ (qx.alloc _)) (fun hHeld => ?_)
        clear hK K
        (try simp only [Act.put, List.getElem_toArray, List.getElem_cons_zero, List.getElem_cons_succ, List.setIfInBounds_toArray, List.set_cons_zero, List.set_cons_succ])
        refine wpAnyH_ready (rs := [9]) (by kernel_rfl) (by simp) ?_
        refine AllReadyH.cons (o := _) rfl (fun K hK => ?_) AllReadyH.nil
        go_simp
        go_at_call 11
        refine (ON.out _).mono ?_
        rintro e wb ⟨rfl, qo⟩
        have qz := (qx.alloc _).trans qo
        refine hK.out _ _ (KS.out _ qz) (fun hHeld => ?_)
        clear hK K
        (try simp only [Act.put, List.getElem_toArray, List.getElem_cons_zero, List.getElem_cons_succ, List.setIfInBounds_toArray, List.set_cons_zero, List.set_cons_succ])
        refine wpAnyH_take (i := 11) (oi := _) (v := ?_) rfl (by kernel_rfl) (by kernel_rfl) (by kernel_rfl) (fun _ _ _ h => h) (Or.inl ⟨by rfl, ?_⟩) (by assumption) ?_
        rotate_left
        · (intro wx hSw; (try dsimp only at hSw); go_simp; (try with_reducible rfl))
        (try simp only [Act.put, List.getElem_toArray, List.getElem_cons_zero, List.getElem_cons_succ, List.setIfInBounds_toArray, List.set_cons_zero, List.set_cons_succ])
        refine wpAnyH_take (i := 12) (oi := _) (v := ?_) rfl (by kernel_rfl) (by kernel_rfl) (by kernel_rfl) (fun _ _ _ h => h) (Or.inl ⟨by rfl, ?_⟩) (by assumption) ?_
        rotate_left
        · (intro wx hSw; (try dsimp only at hSw); go_simp; (try with_reducible rfl))
        (try simp only [Act.put, List.getElem_toArray, List.getElem_cons_zero, List.getElem_cons_succ, List.setIfInBounds_toArray, List.set_cons_zero, List.set_cons_succ])
        refine wpAnyH_take (i := 13) (oi := _) (v := ?_) rfl (by kernel_rfl) (by kernel_rfl) (by kernel_rfl) (fun _ _ _ h => h) (Or.inl ⟨by rfl, ?_⟩) (by assumption) ?_
        rotate_left
        · (intro wx hSw; (try dsimp only at hSw); go_simp; (try with_reducible rfl))
        (try simp only [Act.put, List.getElem_toArray, List.getElem_cons_zero, List.getElem_cons_succ, List.setIfInBounds_toArray, List.set_cons_zero, List.set_cons_succ])
        obtain ⟨b0, b1, b2, b3⟩ := box_of qo
        obtain ⟨f0, f1, f2, f3⟩ := box_free qo
        have hbk := blk_of qo
        refine wpAnyH_ready (rs := [14]) (by kernel_rfl) (by simp) ?_
        refine AllReadyH.cons (o := _) rfl (fun K hK => ?_) AllReadyH.nil
        go_simp
        refine hK.out _ _ (KS.out _ ((((qz.set (Q.size qx) _).set (Q.size qx) _).set (Q.size qx) _).set (Q.size qx) _)) (fun hHeld => ?_)
        clear hK K
        (try simp only [Act.put, List.getElem_toArray, List.getElem_cons_zero, List.getElem_cons_succ, List.setIfInBounds_toArray, List.set_cons_zero, List.set_cons_succ])
        refine wpAnyH_done (by kernel_rfl) ?_ _
        go_wp2_with fail
        go_meet
        exact ⟨rfl, rfl, ⟨_, rfl, blk_set hbk⟩, ((o1.vers OK.out).on (((((((Q.refl _).alloc _).trans qo).set (Nat.le_refl _) _).set (Nat.le_refl _) _).set (Nat.le_refl _) _).set (Nat.le_refl _) _)), qa.trans ((((qz.set (Q.size qx) _).set (Q.size qx) _).set (Q.size qx) _).set (Q.size qx) _)⟩
    · go_simp
      refine hK.out _ _ (KS.out _ ((Q.refl _).alloc _).drew) (fun hHeld => ?_)
      clear hK K
      (try simp only [Act.put, List.getElem_toArray, List.getElem_cons_zero, List.getElem_cons_succ, List.setIfInBounds_toArray, List.set_cons_zero, List.set_cons_succ])
      refine wpAnyH_ready (rs := [2]) (by kernel_rfl) (by simp) ?_
      refine AllReadyH.cons (o := _) rfl (fun K hK => ?_) AllReadyH.nil
      go_simp
      go_at_call 10
      refine (FW.out _ (T0.out.on (qa.trans ((Q.refl _).alloc _).drew))).mono ?_
      rintro e wa ⟨v1, rfl, o1, qf⟩
      have qx := ((Q.refl _).alloc _).drew.trans qf
      refine hK.out _ _ (KS.out _ qx) (fun hHeld => ?_)
      clear hK K
      (try simp only [Act.put, List.getElem_toArray, List.getElem_cons_zero, List.getElem_cons_succ, List.setIfInBounds_toArray, List.set_cons_zero, List.set_cons_succ])
      refine wpAnyH_ready (rs := [9]) (by kernel_rfl) (by simp) ?_
      refine AllReadyH.cons (o := _) rfl (fun K hK => ?_) AllReadyH.nil
      go_simp
      go_at_call 11
      refine (ON.out _).mono ?_
      rintro e wb ⟨rfl, qo0⟩
      have qz := qx.trans qo0
      have qo := (Q.drew (Q.refl _)).trans (qf.trans qo0)
      refine hK.out _ _ (KS.out _ qz) (fun hHeld => ?_)
      clear hK K
      (try simp only [Act.put, List.getElem_toArray, List.getElem_cons_zero, List.getElem_cons_succ, List.setIfInBounds_toArray, List.set_cons_zero, List.set_cons_succ])
      refine wpAnyH_take (i := 11) (oi := _) (v := ?_) rfl (by kernel_rfl) (by kernel_rfl) (by kernel_rfl) (fun _ _ _ h => h) (Or.inl ⟨by rfl, ?_⟩) (by assumption) ?_
      rotate_left
      · (intro wx hSw; (try dsimp only at hSw); go_simp; (try with_reducible rfl))
      (try simp only [Act.put, List.getElem_toArray, List.getElem_cons_zero, List.getElem_cons_succ, List.setIfInBounds_toArray, List.set_cons_zero, List.set_cons_succ])
      refine wpAnyH_take (i := 12) (oi := _) (v := ?_) rfl (by kernel_rfl) (by kernel_rfl) (by kernel_rfl) (fun _ _ _ h => h) (Or.inl ⟨by rfl, ?_⟩) (by assumption) ?_
      rotate_left
      · (intro wx hSw; (try dsimp only at hSw); go_simp; (try with_reducible rfl))
      (try simp only [Act.put, List.getElem_toArray, List.getElem_cons_zero, List.getElem_cons_succ, List.setIfInBounds_toArray, List.set_cons_zero, List.set_cons_succ])
      refine wpAnyH_take (i := 13) (oi := _) (v := ?_) rfl (by kernel_rfl) (by kernel_rfl) (by kernel_rfl) (fun _ _ _ h => h) (Or.inl ⟨by rfl, ?_⟩) (by assumption) ?_
      rotate_left
      · (intro wx hSw; (try dsimp only at hSw); go_simp; (try with_reducible rfl))
      (try simp only [Act.put, List.getElem_toArray, List.getElem_cons_zero, List.getElem_cons_succ, List.setIfInBounds_toArray, List.set_cons_zero, List.set_cons_succ])
      obtain ⟨b0, b1, b2, b3⟩ := box_of qo
      obtain ⟨f0, f1, f2, f3⟩ := box_free qo
      have hbk := blk_of qo
      have hsz1 : (w.alloc (.cells #[.slice A l.length c, .int .u64 (a : Nat), .int .u64 (b : Nat), .int .u64 (x.id : Nat), .string x.data, .bool x.mark, .int .i64 x.tm] 55)).heap.size = w.heap.size + 1 := World.size_alloc _ _
      rw [hsz1] at b0 b1 b2 b3 f0 f1 f2 f3 hbk
      refine wpAnyH_ready (rs := [14]) (by kernel_rfl) (by simp) ?_
      refine AllReadyH.cons (o := _) rfl (fun K hK => ?_) AllReadyH.nil
      go_simp
      refine hK.out _ _ (KS.out _ ((((qz.set (g := w.heap.size + 1) (by simp) _).set (g := w.heap.size + 1) (by simp) _).set (g := w.heap.size + 1) (by simp) _).set (g := w.heap.size + 1) (by simp) _)) (fun hHeld => ?_)
      clear hK K
      (try simp only [Act.put, List.getElem_toArray, List.getElem_cons_zero, List.getElem_cons_succ, List.setIfInBounds_toArray, List.set_cons_zero, List.set_cons_succ])
      refine wpAnyH_done (by kernel_rfl) ?_ _
      go_wp2_with fail
      go_meet
      exact ⟨rfl, rfl, ⟨_, rfl, blk_set hbk⟩, (((((OwnV.on o1 qo0).setAt (by simp)).setAt (by simp)).setAt (by simp)).setAt (by simp)).vers OK.out, qa.trans ((((qz.set (g := w.heap.size + 1) (by simp) _).set (g := w.heap.size + 1) (by simp) _).set (g := w.heap.size + 1) (by simp) _).set (g := w.heap.size + 1) (by simp) _)⟩
  case rest =>
  rename_i wc
  obtain ⟨rfl, rfl, ⟨gb, rfl, hb⟩, t1, qc⟩ := hcut
  have t1 := Lib.hid t1
  have B := Lib.hid (fun d (q : Q wc d) => blk_cell hb q)
  clear FW ON T0 KS hb
  go_wp2_with fail
  refine (DA.out _ _ t1.out).mono ?_
  rintro e w1 ⟨u2, rfl, o2, q1⟩
  have ta := Lib.hid (o2.vers HXL.out)
  clear o2
  go_wp2_with fail
  refine (DB.out _ _ (t1.out.on ((Q.refl _).trans q1))).mono ?_
  rintro e w2 ⟨u3, rfl, o3, q2⟩
  have tb := Lib.hid (o3.vers HYL.out)
  clear o3
  go_wp2_with fail
  refine (DAB.out _ _ (ta.out.on ((Q.refl _).trans q2))).mono ?_
  rintro e w3 ⟨u4, rfl, o4, q3⟩
  have t4 := Lib.hid (o4.vers HPL.out)
  clear o4
  go_wp2_with fail
  refine (DBA.out _ _ (tb.out.on ((Q.refl _).trans q3))).mono ?_
  rintro e w4 ⟨u5, rfl, o5, q4⟩
  have t5 := Lib.hid (o5.vers HPL.out)
  clear o5
  go_wp2_with fail
  refine (SP.out _ _ _ (t4.out.on ((Q.refl _).trans q4)) (t5.out.on (Q.refl _))).mono ?_
  rintro e w5 ⟨rfl, q5⟩
  go_wp2_with fail
  refine (FA.out _ _ (ta.out.on (((((Q.refl _).trans q2).trans q3).trans q4).trans q5))).mono ?_
  rintro e w6 ⟨rfl, q6⟩
  obtain ⟨b0, b1, b2, b3⟩ := B.out _ ((((((((Q.refl _).trans q1).trans q2).trans q3).trans q4).trans q5).trans q6).alloc (.cells #[.int .u64 0, .string ⟨#[]⟩, .bool false, .int .i64 0] 25))
  go_wp2_with fail
  refine (PU.out _ _ (t1.out.on ((((((((Q.refl _).trans q1).trans q2).trans q3).trans q4).trans q5).trans q6).alloc _))).mono ?_
  rintro e w7 ⟨u6, rfl, o6, q7⟩
  have t6 := Lib.hid (o6.vers HNL.out)
  clear o6 b0 b1 b2 b3
  go_wp2_with fail
  refine (awake_any _).mono ?_
  rintro e w8 ⟨rfl, q8⟩
  go_wp2
  go_ret
  exact ⟨rfl, qc.trans ((((((((((Q.refl _).trans q1).trans q2).trans q3).trans q4).trans q5).trans q6).alloc _).trans q7).trans q8)⟩
set_option maxHeartbeats 4000000 in
set_option maxRecDepth 100000 in
theorem walk_x_yes (u : Value) (l : List Ver) (a b : Nat) (x : Ver) (w : World) (t0 : Vers w w.heap.size u l) (z0 : l.length ≤ maxLen) (ux : okV x) (L : List Ver) (hL : L = fewV l) (hlen : L.length ≤ 21) (hok : ∀ x ∈ L, okV x) (y : Ver) (hyd : y = oneV x) (XL YL NL : List Ver) (xc yc nc : Nat) (hX : DropC L a XL xc) (hY : DropC L b YL yc) (hN : PutC L 1 y NL nc) (hx : xc ≠ 0) (hn : nc = 0) :
    Calls Try.prog 6 #[.agg #[u, .int .u64 (a : Nat), .int .u64 (b : Nat), .int .u64 (x.id : Nat), .string x.data, .bool x.mark, .int .i64 x.tm]] w fun e w' => e = .returned (.bool true) ∧ Q w w' := by
  obtain ⟨A, c, rfl⟩ := t0.shape
  have OK := Lib.hid hok
  have T0 := Lib.hid t0
  have FW : Hid (∀ d (hu : Vers d d.heap.size (.slice A l.length c) l), Calls Try.prog 10 #[.slice A l.length c] d fun e w' => ∃ v', e = .returned v' ∧ OwnV d.heap.size w' v' L ∧ Q d w') := Lib.hid (fun d hu => by rw [hL]; exact few_any l _ d z0 hu)
  have ON := Lib.hid (fun d => one_any x d ux)
  have hy := oneV_ok ux
  rw [← hyd] at ON hy
  rw [ver, ver] at ON
  have qa : Q w (w.alloc (.cells #[.slice A l.length c, .int .u64 (a : Nat), .int .u64 (b : Nat), .int .u64 (x.id : Nat), .string x.data, .bool x.mark, .int .i64 x.tm] 55)) := (Q.refl w).alloc _
  have KS : Hid (∀ d, Q (w.alloc (.cells #[.slice A l.length c, .int .u64 (a : Nat), .int .u64 (b : Nat), .int .u64 (x.id : Nat), .string x.data, .bool x.mark, .int .i64 x.tm] 55)) d → (fun w' => w'.cell? ⟨w.heap.size, 0, none⟩ = some (.slice A l.length c) ∧ w'.cell? ⟨w.heap.size, 1, none⟩ = some (.int .u64 (a : Nat)) ∧ w'.cell? ⟨w.heap.size, 2, none⟩ = some (.int .u64 (b : Nat)) ∧ w'.cell? ⟨w.heap.size, 3, none⟩ = some (.int .u64 (x.id : Nat)) ∧ w'.cell? ⟨w.heap.size, 4, none⟩ = some (.string x.data) ∧ w'.cell? ⟨w.heap.size, 5, none⟩ = some (.bool x.mark) ∧ w'.cell? ⟨w.heap.size, 6, none⟩ = some (.int .i64 x.tm) ∧ Q (w.alloc (.cells #[.slice A l.length c, .int .u64 (a : Nat), .int .u64 (b : Nat), .int .u64 (x.id : Nat), .string x.data, .bool x.mark, .int .i64 x.tm] 55)) w') d) := Lib.hid (by
    intro d q
    obtain ⟨b0, b1, b2, b3, b4, b5, b6⟩ := turn_of q
    exact ⟨b0, b1, b2, b3, b4, b5, b6, q⟩)
  have HXL := Lib.hid (dropC_okV hX hok)
  have HYL := Lib.hid (dropC_okV hY hok)
  have HNL := Lib.hid (putC_okV hN hok hy)
  subst hn
  obtain ⟨-, hB, hokl⟩ := (put_back hN).resolve_left (fun k => k rfl)
  have DA : Hid (∀ (d : World) (u : Value) (hu : Vers d d.heap.size u L), Calls Try.prog 20 #[u, .int .u64 (a : Nat)] d fun e w' => ∃ v', e = .returned (.tuple #[v', .int .i64 (xc : Nat)]) ∧ OwnV d.heap.size w' v' XL ∧ Q d w') := Lib.hid (fun d u hu => drop_any L u a d XL _ hX (by omega) hu)
  have DB : Hid (∀ (d : World) (u : Value) (hu : Vers d d.heap.size u L), Calls Try.prog 20 #[u, .int .u64 (b : Nat)] d fun e w' => ∃ v', e = .returned (.tuple #[v', .int .i64 (yc : Nat)]) ∧ OwnV d.heap.size w' v' YL ∧ Q d w') := Lib.hid (fun d u hu => drop_any L u b d YL _ hY (by omega) hu)
  have hxl := dropC_len hX
  have hyl := dropC_len hY
  have hnl := putC_len hN
  have FA : Hid (∀ (d : World) (u : Value) (hu : Vers d d.heap.size u XL), Calls Try.prog 24 #[u, .int .u64 (a : Nat)] d fun e w' => e = .returned (.tuple #[.agg #[.int .u64 0, .string ⟨#[]⟩, .bool false, .int .i64 0], .int .i64 4]) ∧ Q d w') := Lib.hid (fun d u hu => by
    have := find_any XL u a d (drop_okP hX) (by omega) hu
    rw [drop_gone hX] at this
    exact this)
  have PU : Hid (∀ (d : World) (u : Value) (hu : Vers d d.heap.size u L), Calls Try.prog 12 #[u, .int .i64 1, .agg #[.int .u64 (y.id : Nat), .string y.data, .bool y.mark, .int .i64 y.tm]] d fun e w' => ∃ v', e = .returned (.tuple #[v', .int .i64 0]) ∧ OwnV d.heap.size w' v' NL ∧ Q d w') := Lib.hid (fun d u hu => put_any L u 1 y d NL _ hN (by omega) hy hu)
  have hx1 : ((xc : Int) == 0) = false := by
    have : ¬ (xc : Int) = 0 := by omega
    simpa using this
  clear hx
  have DN : Hid (∀ (d : World) (u : Value) (hu : Vers d d.heap.size u NL), Calls Try.prog 20 #[u, .int .u64 (y.id : Nat)] d fun e w' => ∃ v', e = .returned (.tuple #[v', .int .i64 0]) ∧ OwnV d.heap.size w' v' L ∧ Q d w') := Lib.hid (fun d u hu => drop_any NL u y.id d L _ hB (by omega) hu)
  have SL : Hid (∀ (d : World) (u u2 : Value) (hu : Vers d d.heap.size u L) (hu2 : Vers d d.heap.size u2 L), Calls Try.prog 16 #[u, u2] d fun e w' => e = .returned (.bool true) ∧ Q d w') := Lib.hid (fun d u u2 hu hu2 => same_any L u u2 d (by omega) hu hu2)
  clear hB hokl
  clear hX hY hN hok hL t0 hyd
  go_enter Try.func6, Try.ntmps6
  go_upto_region 1 with fail
  go_cut [3, 4, 5, 6] from 21 to 30 (fun V a' b' g wx => a' = .int .u64 (a : Nat) ∧ b' = .int .u64 (b : Nat) ∧ (∃ gb, g = .pointer (some ⟨gb, 0, none⟩) ∧ wx.heap[gb]? = some (.cells #[.int .u64 (y.id : Nat), .string y.data, .bool y.mark, .int .i64 y.tm] 25)) ∧ Vers wx wx.heap.size V L ∧ Q w wx)
  case first =>
    refine wp_region_held_drew (S := (fun w' => w'.cell? ⟨w.heap.size, 0, none⟩ = some (.slice A l.length c) ∧ w'.cell? ⟨w.heap.size, 1, none⟩ = some (.int .u64 (a : Nat)) ∧ w'.cell? ⟨w.heap.size, 2, none⟩ = some (.int .u64 (b : Nat)) ∧ w'.cell? ⟨w.heap.size, 3, none⟩ = some (.int .u64 (x.id : Nat)) ∧ w'.cell? ⟨w.heap.size, 4, none⟩ = some (.string x.data) ∧ w'.cell? ⟨w.heap.size, 5, none⟩ = some (.bool x.mark) ∧ w'.cell? ⟨w.heap.size, 6, none⟩ = some (.int .i64 x.tm) ∧ Q (w.alloc (.cells #[.slice A l.length c, .int .u64 (a : Nat), .int .u64 (b : Nat), .int .u64 (x.id : Nat), .string x.data, .bool x.mark, .int .i64 x.tm] 55)) w')) (by kernel_rfl) (KS.out _ (Q.refl _).drew) (fun hHeld => ?_)
    refine wpAnyH_take (i := 0) (oi := _) (v := ?_) rfl (by kernel_rfl) (by kernel_rfl) (by kernel_rfl) (fun _ _ _ h => h) (Or.inl ⟨by rfl, ?_⟩) (by assumption) ?_
    rotate_left
    · (intro wx hSw; (try dsimp only at hSw); go_simp; (try with_reducible rfl))
    (try simp only [Act.put, List.getElem_toArray, List.getElem_cons_zero, List.getElem_cons_succ, List.setIfInBounds_toArray, List.set_cons_zero, List.set_cons_succ])
    refine wpAnyH_take (i := 1) (oi := _) (v := ?_) rfl (by kernel_rfl) (by kernel_rfl) (by kernel_rfl) (fun _ _ _ h => h) (Or.inl ⟨by rfl, ?_⟩) (by assumption) ?_
    rotate_left
    · (intro wx hSw; (try dsimp only at hSw); go_simp; (try with_reducible rfl))
    (try simp only [Act.put, List.getElem_toArray, List.getElem_cons_zero, List.getElem_cons_succ, List.setIfInBounds_toArray, List.set_cons_zero, List.set_cons_succ])
    refine wpAnyH_take (i := 3) (oi := _) (v := ?_) rfl (by kernel_rfl) (by kernel_rfl) (by kernel_rfl) (fun _ _ _ h => h) (Or.inl ⟨by rfl, ?_⟩) (by assumption) ?_
    rotate_left
    · (intro wx hSw; (try dsimp only at hSw); go_simp; (try with_reducible rfl))
    (try simp only [Act.put, List.getElem_toArray, List.getElem_cons_zero, List.getElem_cons_succ, List.setIfInBounds_toArray, List.set_cons_zero, List.set_cons_succ])
    refine wpAnyH_take (i := 4) (oi := _) (v := ?_) rfl (by kernel_rfl) (by kernel_rfl) (by kernel_rfl) (fun _ _ _ h => h) (Or.inl ⟨by rfl, ?_⟩) (by assumption) ?_
    rotate_left
    · (intro wx hSw; (try dsimp only at hSw); go_simp; (try with_reducible rfl))
    (try simp only [Act.put, List.getElem_toArray, List.getElem_cons_zero, List.getElem_cons_succ, List.setIfInBounds_toArray, List.set_cons_zero, List.set_cons_succ])
    refine wpAnyH_take (i := 5) (oi := _) (v := ?_) rfl (by kernel_rfl) (by kernel_rfl) (by kernel_rfl) (fun _ _ _ h => h) (Or.inl ⟨by rfl, ?_⟩) (by assumption) ?_
    rotate_left
    · (intro wx hSw; (try dsimp only at hSw); go_simp; (try with_reducible rfl))
    (try simp only [Act.put, List.getElem_toArray, List.getElem_cons_zero, List.getElem_cons_succ, List.setIfInBounds_toArray, List.set_cons_zero, List.set_cons_succ])
    refine wpAnyH_take (i := 6) (oi := _) (v := ?_) rfl (by kernel_rfl) (by kernel_rfl) (by kernel_rfl) (fun _ _ _ h => h) (Or.inl ⟨by rfl, ?_⟩) (by assumption) ?_
    rotate_left
    · (intro wx hSw; (try dsimp only at hSw); go_simp; (try with_reducible rfl))
    (try simp only [Act.put, List.getElem_toArray, List.getElem_cons_zero, List.getElem_cons_succ, List.setIfInBounds_toArray, List.set_cons_zero, List.set_cons_succ])
    refine wpAnyH_take (i := 7) (oi := _) (v := ?_) rfl (by kernel_rfl) (by kernel_rfl) (by kernel_rfl) (fun _ _ _ h => h) (Or.inl ⟨by rfl, ?_⟩) (by assumption) ?_
    rotate_left
    · (intro wx hSw; (try dsimp only at hSw); go_simp; (try with_reducible rfl))
    (try simp only [Act.put, List.getElem_toArray, List.getElem_cons_zero, List.getElem_cons_succ, List.setIfInBounds_toArray, List.set_cons_zero, List.set_cons_succ])
    refine wpAnyH_take (i := 8) (oi := _) (v := ?_) rfl (by kernel_rfl) (by kernel_rfl) (by kernel_rfl) (fun _ _ _ h => h) (Or.inl ⟨by rfl, ?_⟩) (by assumption) ?_
    rotate_left
    · (intro wx hSw; (try dsimp only at hSw); go_simp; (try with_reducible rfl))
    (try simp only [Act.put, List.getElem_toArray, List.getElem_cons_zero, List.getElem_cons_succ, List.setIfInBounds_toArray, List.set_cons_zero, List.set_cons_succ])
    refine wpAnyH_ready (rs := [2, 10]) (by kernel_rfl) (by simp) ?_
    refine AllReadyH.cons (o := _) rfl (fun K hK => ?_) (AllReadyH.cons (o := _) rfl (fun K hK => ?_) AllReadyH.nil)
    · go_simp
      go_at_call 10
      refine (FW.out _ (T0.out.on (qa.trans (Q.refl _).drew))).mono ?_
      rintro e wa ⟨v1, rfl, o1, qf⟩
      have qx := (Q.refl _).drew.trans qf
      refine hK.out _ _ (KS.out _ qx) (fun hHeld => ?_)
      clear hK K
      (try simp only [Act.put, List.getElem_toArray, List.getElem_cons_zero, List.getElem_cons_succ, List.setIfInBounds_toArray, List.set_cons_zero, List.set_cons_succ])
      refine wpAnyH_ready (rs := [9, 10]) (by kernel_rfl) (by simp) ?_
      refine AllReadyH.cons (o := _) rfl (fun K hK => ?_) (AllReadyH.cons (o := _) rfl (fun K hK => ?_) AllReadyH.nil)
      · go_simp
        go_at_call 11
        refine (ON.out _).mono ?_
        rintro e wb ⟨rfl, qo⟩
        refine hK.out _ _ (KS.out _ (qx.trans qo)) (fun hHeld => ?_)
        clear hK K
        (try simp only [Act.put, List.getElem_toArray, List.getElem_cons_zero, List.getElem_cons_succ, List.setIfInBounds_toArray, List.set_cons_zero, List.set_cons_succ])
        refine wpAnyH_ready (rs := [10]) (by kernel_rfl) (by simp) ?_
        refine AllReadyH.cons (o := _) rfl (fun K hK => ?_) AllReadyH.nil
        go_simp
        refine hK.out _ _ (KS.out _ ((qx.trans qo).alloc _)) (fun hHeld => ?_)
        clear hK K
        (try simp only [Act.put, List.getElem_toArray, List.getElem_cons_zero, List.getElem_cons_succ, List.setIfInBounds_toArray, List.set_cons_zero, List.set_cons_succ])
        refine wpAnyH_take (i := 11) (oi := _) (v := ?_) rfl (by kernel_rfl) (by kernel_rfl) (by kernel_rfl) (fun _ _ _ h => h) (Or.inl ⟨by rfl, ?_⟩) (by assumption) ?_
        rotate_left
        · (intro wx hSw; (try dsimp only at hSw); go_simp; (try with_reducible rfl))
        (try simp only [Act.put, List.getElem_toArray, List.getElem_cons_zero, List.getElem_cons_succ, List.setIfInBounds_toArray, List.set_cons_zero, List.set_cons_succ])
        refine wpAnyH_take (i := 12) (oi := _) (v := ?_) rfl (by kernel_rfl) (by kernel_rfl) (by kernel_rfl) (fun _ _ _ h => h) (Or.inl ⟨by rfl, ?_⟩) (by assumption) ?_
        rotate_left
        · (intro wx hSw; (try dsimp only at hSw); go_simp; (try with_reducible rfl))
        (try simp only [Act.put, List.getElem_toArray, List.getElem_cons_zero, List.getElem_cons_succ, List.setIfInBounds_toArray, List.set_cons_zero, List.set_cons_succ])
        refine wpAnyH_take (i := 13) (oi := _) (v := ?_) rfl (by kernel_rfl) (by kernel_rfl) (by kernel_rfl) (fun _ _ _ h => h) (Or.inl ⟨by rfl, ?_⟩) (by assumption) ?_
        rotate_left
        · (intro wx hSw; (try dsimp only at hSw); go_simp; (try with_reducible rfl))
        (try simp only [Act.put, List.getElem_toArray, List.getElem_cons_zero, List.getElem_cons_succ, List.setIfInBounds_toArray, List.set_cons_zero, List.set_cons_succ])
        refine wpAnyH_ready (rs := [14]) (by kernel_rfl) (by simp) ?_
        refine AllReadyH.cons (o := _) rfl (fun K hK => ?_) AllReadyH.nil
        go_simp
        refine hK.out _ _ (KS.out _ ((qx.trans qo).alloc _)) (fun hHeld => ?_)
        clear hK K
        (try simp only [Act.put, List.getElem_toArray, List.getElem_cons_zero, List.getElem_cons_succ, List.setIfInBounds_toArray, List.set_cons_zero, List.set_cons_succ])
        refine wpAnyH_done (by kernel_rfl) ?_ _
        go_wp2_with fail
        go_meet
        exact ⟨rfl, rfl, ⟨_, rfl, heap_alloc_new wb _⟩, ((o1.vers OK.out).on (qo.alloc _)), qa.trans ((qx.trans qo).alloc _)⟩
      · go_simp
        refine hK.out _ _ (KS.out _ (qx.alloc _)) (fun hHeld => ?_)
        clear hK K
        (try simp only [Act.put, List.getElem_toArray, List.getElem_cons_zero, List.getElem_cons_succ, List.setIfInBounds_toArray, List.set_cons_zero, List.set_cons_succ])
        refine wpAnyH_ready (rs := [9]) (by kernel_rfl) (by simp) ?_
        refine AllReadyH.cons (o := _) rfl (fun K hK => ?_) AllReadyH.nil
        go_simp
        go_at_call 11
        refine (ON.out _).mono ?_
        rintro e wb ⟨rfl, qo⟩
        have qz := (qx.alloc _).trans qo
        refine hK.out _ _ (KS.out _ qz) (fun hHeld => ?_)
        clear hK K
        (try simp only [Act.put, List.getElem_toArray, List.getElem_cons_zero, List.getElem_cons_succ, List.setIfInBounds_toArray, List.set_cons_zero, List.set_cons_succ])
        refine wpAnyH_take (i := 11) (oi := _) (v := ?_) rfl (by kernel_rfl) (by kernel_rfl) (by kernel_rfl) (fun _ _ _ h => h) (Or.inl ⟨by rfl, ?_⟩) (by assumption) ?_
        rotate_left
        · (intro wx hSw; (try dsimp only at hSw); go_simp; (try with_reducible rfl))
        (try simp only [Act.put, List.getElem_toArray, List.getElem_cons_zero, List.getElem_cons_succ, List.setIfInBounds_toArray, List.set_cons_zero, List.set_cons_succ])
        refine wpAnyH_take (i := 12) (oi := _) (v := ?_) rfl (by kernel_rfl) (by kernel_rfl) (by kernel_rfl) (fun _ _ _ h => h) (Or.inl ⟨by rfl, ?_⟩) (by assumption) ?_
        rotate_left
        · (intro wx hSw; (try dsimp only at hSw); go_simp; (try with_reducible rfl))
        (try simp only [Act.put, List.getElem_toArray, List.getElem_cons_zero, List.getElem_cons_succ, List.setIfInBounds_toArray, List.set_cons_zero, List.set_cons_succ])
        refine wpAnyH_take (i := 13) (oi := _) (v := ?_) rfl (by kernel_rfl) (by kernel_rfl) (by kernel_rfl) (fun _ _ _ h => h) (Or.inl ⟨by rfl, ?_⟩) (by assumption) ?_
        rotate_left
        · (intro wx hSw; (try dsimp only at hSw); go_simp; (try with_reducible rfl))
        (try simp only [Act.put, List.getElem_toArray, List.getElem_cons_zero, List.getElem_cons_succ, List.setIfInBounds_toArray, List.set_cons_zero, List.set_cons_succ])
        obtain ⟨b0, b1, b2, b3⟩ := box_of qo
        obtain ⟨f0, f1, f2, f3⟩ := box_free qo
        have hbk := blk_of qo
        refine wpAnyH_ready (rs := [14]) (by kernel_rfl) (by simp) ?_
        refine AllReadyH.cons (o := _) rfl (fun K hK => ?_) AllReadyH.nil
        go_simp
        refine hK.out _ _ (KS.out _ ((((qz.set (Q.size qx) _).set (Q.size qx) _).set (Q.size qx) _).set (Q.size qx) _)) (fun hHeld => ?_)
        clear hK K
        (try simp only [Act.put, List.getElem_toArray, List.getElem_cons_zero, List.getElem_cons_succ, List.setIfInBounds_toArray, List.set_cons_zero, List.set_cons_succ])
        refine wpAnyH_done (by kernel_rfl) ?_ _
        go_wp2_with fail
        go_meet
        exact ⟨rfl, rfl, ⟨_, rfl, blk_set hbk⟩, ((o1.vers OK.out).on (((((((Q.refl _).alloc _).trans qo).set (Nat.le_refl _) _).set (Nat.le_refl _) _).set (Nat.le_refl _) _).set (Nat.le_refl _) _)), qa.trans ((((qz.set (Q.size qx) _).set (Q.size qx) _).set (Q.size qx) _).set (Q.size qx) _)⟩
    · go_simp
      refine hK.out _ _ (KS.out _ ((Q.refl _).alloc _).drew) (fun hHeld => ?_)
      clear hK K
      (try simp only [Act.put, List.getElem_toArray, List.getElem_cons_zero, List.getElem_cons_succ, List.setIfInBounds_toArray, List.set_cons_zero, List.set_cons_succ])
      refine wpAnyH_ready (rs := [2]) (by kernel_rfl) (by simp) ?_
      refine AllReadyH.cons (o := _) rfl (fun K hK => ?_) AllReadyH.nil
      go_simp
      go_at_call 10
      refine (FW.out _ (T0.out.on (qa.trans ((Q.refl _).alloc _).drew))).mono ?_
      rintro e wa ⟨v1, rfl, o1, qf⟩
      have qx := ((Q.refl _).alloc _).drew.trans qf
      refine hK.out _ _ (KS.out _ qx) (fun hHeld => ?_)
      clear hK K
      (try simp only [Act.put, List.getElem_toArray, List.getElem_cons_zero, List.getElem_cons_succ, List.setIfInBounds_toArray, List.set_cons_zero, List.set_cons_succ])
      refine wpAnyH_ready (rs := [9]) (by kernel_rfl) (by simp) ?_
      refine AllReadyH.cons (o := _) rfl (fun K hK => ?_) AllReadyH.nil
      go_simp
      go_at_call 11
      refine (ON.out _).mono ?_
      rintro e wb ⟨rfl, qo0⟩
      have qz := qx.trans qo0
      have qo := (Q.drew (Q.refl _)).trans (qf.trans qo0)
      refine hK.out _ _ (KS.out _ qz) (fun hHeld => ?_)
      clear hK K
      (try simp only [Act.put, List.getElem_toArray, List.getElem_cons_zero, List.getElem_cons_succ, List.setIfInBounds_toArray, List.set_cons_zero, List.set_cons_succ])
      refine wpAnyH_take (i := 11) (oi := _) (v := ?_) rfl (by kernel_rfl) (by kernel_rfl) (by kernel_rfl) (fun _ _ _ h => h) (Or.inl ⟨by rfl, ?_⟩) (by assumption) ?_
      rotate_left
      · (intro wx hSw; (try dsimp only at hSw); go_simp; (try with_reducible rfl))
      (try simp only [Act.put, List.getElem_toArray, List.getElem_cons_zero, List.getElem_cons_succ, List.setIfInBounds_toArray, List.set_cons_zero, List.set_cons_succ])
      refine wpAnyH_take (i := 12) (oi := _) (v := ?_) rfl (by kernel_rfl) (by kernel_rfl) (by kernel_rfl) (fun _ _ _ h => h) (Or.inl ⟨by rfl, ?_⟩) (by assumption) ?_
      rotate_left
      · (intro wx hSw; (try dsimp only at hSw); go_simp; (try with_reducible rfl))
      (try simp only [Act.put, List.getElem_toArray, List.getElem_cons_zero, List.getElem_cons_succ, List.setIfInBounds_toArray, List.set_cons_zero, List.set_cons_succ])
      refine wpAnyH_take (i := 13) (oi := _) (v := ?_) rfl (by kernel_rfl) (by kernel_rfl) (by kernel_rfl) (fun _ _ _ h => h) (Or.inl ⟨by rfl, ?_⟩) (by assumption) ?_
      rotate_left
      · (intro wx hSw; (try dsimp only at hSw); go_simp; (try with_reducible rfl))
      (try simp only [Act.put, List.getElem_toArray, List.getElem_cons_zero, List.getElem_cons_succ, List.setIfInBounds_toArray, List.set_cons_zero, List.set_cons_succ])
      obtain ⟨b0, b1, b2, b3⟩ := box_of qo
      obtain ⟨f0, f1, f2, f3⟩ := box_free qo
      have hbk := blk_of qo
      have hsz1 : (w.alloc (.cells #[.slice A l.length c, .int .u64 (a : Nat), .int .u64 (b : Nat), .int .u64 (x.id : Nat), .string x.data, .bool x.mark, .int .i64 x.tm] 55)).heap.size = w.heap.size + 1 := World.size_alloc _ _
      rw [hsz1] at b0 b1 b2 b3 f0 f1 f2 f3 hbk
      refine wpAnyH_ready (rs := [14]) (by kernel_rfl) (by simp) ?_
      refine AllReadyH.cons (o := _) rfl (fun K hK => ?_) AllReadyH.nil
      go_simp
      refine hK.out _ _ (KS.out _ ((((qz.set (g := w.heap.size + 1) (by simp) _).set (g := w.heap.size + 1) (by simp) _).set (g := w.heap.size + 1) (by simp) _).set (g := w.heap.size + 1) (by simp) _)) (fun hHeld => ?_)
      clear hK K
      (try simp only [Act.put, List.getElem_toArray, List.getElem_cons_zero, List.getElem_cons_succ, List.setIfInBounds_toArray, List.set_cons_zero, List.set_cons_succ])
      refine wpAnyH_done (by kernel_rfl) ?_ _
      go_wp2_with fail
      go_meet
      exact ⟨rfl, rfl, ⟨_, rfl, blk_set hbk⟩, (((((OwnV.on o1 qo0).setAt (by simp)).setAt (by simp)).setAt (by simp)).setAt (by simp)).vers OK.out, qa.trans ((((qz.set (g := w.heap.size + 1) (by simp) _).set (g := w.heap.size + 1) (by simp) _).set (g := w.heap.size + 1) (by simp) _).set (g := w.heap.size + 1) (by simp) _)⟩
  case rest =>
  rename_i wc
  obtain ⟨rfl, rfl, ⟨gb, rfl, hb⟩, t1, qc⟩ := hcut
  have t1 := Lib.hid t1
  have B := Lib.hid (fun d (q : Q wc d) => blk_cell hb q)
  clear FW ON T0 KS hb
  go_wp2_with fail
  refine (DA.out _ _ t1.out).mono ?_
  rintro e w1 ⟨u2, rfl, o2, q1⟩
  have ta := Lib.hid (o2.vers HXL.out)
  clear o2
  go_wp2_with fail
  refine (DB.out _ _ (t1.out.on ((Q.refl _).trans q1))).mono ?_
  rintro e w2 ⟨u3, rfl, o3, q2⟩
  have tb := Lib.hid (o3.vers HYL.out)
  clear o3
  go_wp2_with fail
  refine (FA.out _ _ (ta.out.on ((Q.refl _).trans q2))).mono ?_
  rintro e w3 ⟨rfl, q3⟩
  obtain ⟨b0, b1, b2, b3⟩ := B.out _ (((((Q.refl _).trans q1).trans q2).trans q3).alloc (.cells #[.int .u64 0, .string ⟨#[]⟩, .bool false, .int .i64 0] 25))
  go_wp2_with fail
  refine (PU.out _ _ (t1.out.on (((((Q.refl _).trans q1).trans q2).trans q3).alloc _))).mono ?_
  rintro e w4 ⟨u6, rfl, o6, q4⟩
  have t6 := Lib.hid (o6.vers HNL.out)
  clear o6 b0 b1 b2 b3
  obtain ⟨b0, b1, b2, b3⟩ := B.out _ ((((((Q.refl _).trans q1).trans q2).trans q3).alloc (.cells #[.int .u64 0, .string ⟨#[]⟩, .bool false, .int .i64 0] 25)).trans q4)
  go_wp2_with fail
  refine (DN.out _ _ (t6.out.on (Q.refl _))).mono ?_
  rintro e w5 ⟨u7, rfl, o7, q5⟩
  have t7 := Lib.hid (o7.vers OK.out)
  clear o7 b0 b1 b2 b3
  go_wp2_with fail
  refine (SL.out _ _ _ (t7.out.on (Q.refl _)) (t1.out.on (((((((Q.refl _).trans q1).trans q2).trans q3).alloc _).trans q4).trans q5))).mono ?_
  rintro e w6 ⟨rfl, q6⟩
  go_wp2_with fail
  refine (awake_any _).mono ?_
  rintro e w7 ⟨rfl, q7⟩
  go_wp2
  go_ret
  exact ⟨rfl, qc.trans (((((((((Q.refl _).trans q1).trans q2).trans q3).alloc _).trans q4).trans q5).trans q6).trans q7)⟩
set_option maxHeartbeats 4000000 in
set_option maxRecDepth 100000 in
theorem walk_x_no (u : Value) (l : List Ver) (a b : Nat) (x : Ver) (w : World) (t0 : Vers w w.heap.size u l) (z0 : l.length ≤ maxLen) (ux : okV x) (L : List Ver) (hL : L = fewV l) (hlen : L.length ≤ 21) (hok : ∀ x ∈ L, okV x) (y : Ver) (hyd : y = oneV x) (XL YL NL : List Ver) (xc yc nc : Nat) (hX : DropC L a XL xc) (hY : DropC L b YL yc) (hN : PutC L 1 y NL nc) (hx : xc ≠ 0) (hn : nc ≠ 0) :
    Calls Try.prog 6 #[.agg #[u, .int .u64 (a : Nat), .int .u64 (b : Nat), .int .u64 (x.id : Nat), .string x.data, .bool x.mark, .int .i64 x.tm]] w fun e w' => e = .returned (.bool true) ∧ Q w w' := by
  obtain ⟨A, c, rfl⟩ := t0.shape
  have OK := Lib.hid hok
  have T0 := Lib.hid t0
  have FW : Hid (∀ d (hu : Vers d d.heap.size (.slice A l.length c) l), Calls Try.prog 10 #[.slice A l.length c] d fun e w' => ∃ v', e = .returned v' ∧ OwnV d.heap.size w' v' L ∧ Q d w') := Lib.hid (fun d hu => by rw [hL]; exact few_any l _ d z0 hu)
  have ON := Lib.hid (fun d => one_any x d ux)
  have hy := oneV_ok ux
  rw [← hyd] at ON hy
  rw [ver, ver] at ON
  have qa : Q w (w.alloc (.cells #[.slice A l.length c, .int .u64 (a : Nat), .int .u64 (b : Nat), .int .u64 (x.id : Nat), .string x.data, .bool x.mark, .int .i64 x.tm] 55)) := (Q.refl w).alloc _
  have KS : Hid (∀ d, Q (w.alloc (.cells #[.slice A l.length c, .int .u64 (a : Nat), .int .u64 (b : Nat), .int .u64 (x.id : Nat), .string x.data, .bool x.mark, .int .i64 x.tm] 55)) d → (fun w' => w'.cell? ⟨w.heap.size, 0, none⟩ = some (.slice A l.length c) ∧ w'.cell? ⟨w.heap.size, 1, none⟩ = some (.int .u64 (a : Nat)) ∧ w'.cell? ⟨w.heap.size, 2, none⟩ = some (.int .u64 (b : Nat)) ∧ w'.cell? ⟨w.heap.size, 3, none⟩ = some (.int .u64 (x.id : Nat)) ∧ w'.cell? ⟨w.heap.size, 4, none⟩ = some (.string x.data) ∧ w'.cell? ⟨w.heap.size, 5, none⟩ = some (.bool x.mark) ∧ w'.cell? ⟨w.heap.size, 6, none⟩ = some (.int .i64 x.tm) ∧ Q (w.alloc (.cells #[.slice A l.length c, .int .u64 (a : Nat), .int .u64 (b : Nat), .int .u64 (x.id : Nat), .string x.data, .bool x.mark, .int .i64 x.tm] 55)) w') d) := Lib.hid (by
    intro d q
    obtain ⟨b0, b1, b2, b3, b4, b5, b6⟩ := turn_of q
    exact ⟨b0, b1, b2, b3, b4, b5, b6, q⟩)
  have HXL := Lib.hid (dropC_okV hX hok)
  have HYL := Lib.hid (dropC_okV hY hok)
  have HNL := Lib.hid (putC_okV hN hok hy)
  have DA : Hid (∀ (d : World) (u : Value) (hu : Vers d d.heap.size u L), Calls Try.prog 20 #[u, .int .u64 (a : Nat)] d fun e w' => ∃ v', e = .returned (.tuple #[v', .int .i64 (xc : Nat)]) ∧ OwnV d.heap.size w' v' XL ∧ Q d w') := Lib.hid (fun d u hu => drop_any L u a d XL _ hX (by omega) hu)
  have DB : Hid (∀ (d : World) (u : Value) (hu : Vers d d.heap.size u L), Calls Try.prog 20 #[u, .int .u64 (b : Nat)] d fun e w' => ∃ v', e = .returned (.tuple #[v', .int .i64 (yc : Nat)]) ∧ OwnV d.heap.size w' v' YL ∧ Q d w') := Lib.hid (fun d u hu => drop_any L u b d YL _ hY (by omega) hu)
  have hxl := dropC_len hX
  have hyl := dropC_len hY
  have hnl := putC_len hN
  have FA : Hid (∀ (d : World) (u : Value) (hu : Vers d d.heap.size u XL), Calls Try.prog 24 #[u, .int .u64 (a : Nat)] d fun e w' => e = .returned (.tuple #[.agg #[.int .u64 0, .string ⟨#[]⟩, .bool false, .int .i64 0], .int .i64 4]) ∧ Q d w') := Lib.hid (fun d u hu => by
    have := find_any XL u a d (drop_okP hX) (by omega) hu
    rw [drop_gone hX] at this
    exact this)
  have PU : Hid (∀ (d : World) (u : Value) (hu : Vers d d.heap.size u L), Calls Try.prog 12 #[u, .int .i64 1, .agg #[.int .u64 (y.id : Nat), .string y.data, .bool y.mark, .int .i64 y.tm]] d fun e w' => ∃ v', e = .returned (.tuple #[v', .int .i64 (nc : Nat)]) ∧ OwnV d.heap.size w' v' NL ∧ Q d w') := Lib.hid (fun d u hu => put_any L u 1 y d NL _ hN (by omega) hy hu)
  have hx1 : ((xc : Int) == 0) = false := by
    have : ¬ (xc : Int) = 0 := by omega
    simpa using this
  clear hx
  have hn1 : ((nc : Int) != 0) = true := by
    have : ¬ (nc : Int) = 0 := by omega
    simpa using this
  clear hn
  clear hX hY hN hok hL t0 hyd
  go_enter Try.func6, Try.ntmps6
  go_upto_region 1 with fail
  go_cut [3, 4, 5, 6] from 21 to 30 (fun V a' b' g wx => a' = .int .u64 (a : Nat) ∧ b' = .int .u64 (b : Nat) ∧ (∃ gb, g = .pointer (some ⟨gb, 0, none⟩) ∧ wx.heap[gb]? = some (.cells #[.int .u64 (y.id : Nat), .string y.data, .bool y.mark, .int .i64 y.tm] 25)) ∧ Vers wx wx.heap.size V L ∧ Q w wx)
  case first =>
    refine wp_region_held_drew (S := (fun w' => w'.cell? ⟨w.heap.size, 0, none⟩ = some (.slice A l.length c) ∧ w'.cell? ⟨w.heap.size, 1, none⟩ = some (.int .u64 (a : Nat)) ∧ w'.cell? ⟨w.heap.size, 2, none⟩ = some (.int .u64 (b : Nat)) ∧ w'.cell? ⟨w.heap.size, 3, none⟩ = some (.int .u64 (x.id : Nat)) ∧ w'.cell? ⟨w.heap.size, 4, none⟩ = some (.string x.data) ∧ w'.cell? ⟨w.heap.size, 5, none⟩ = some (.bool x.mark) ∧ w'.cell? ⟨w.heap.size, 6, none⟩ = some (.int .i64 x.tm) ∧ Q (w.alloc (.cells #[.slice A l.length c, .int .u64 (a : Nat), .int .u64 (b : Nat), .int .u64 (x.id : Nat), .string x.data, .bool x.mark, .int .i64 x.tm] 55)) w')) (by kernel_rfl) (KS.out _ (Q.refl _).drew) (fun hHeld => ?_)
    refine wpAnyH_take (i := 0) (oi := _) (v := ?_) rfl (by kernel_rfl) (by kernel_rfl) (by kernel_rfl) (fun _ _ _ h => h) (Or.inl ⟨by rfl, ?_⟩) (by assumption) ?_
    rotate_left
    · (intro wx hSw; (try dsimp only at hSw); go_simp; (try with_reducible rfl))
    (try simp only [Act.put, List.getElem_toArray, List.getElem_cons_zero, List.getElem_cons_succ, List.setIfInBounds_toArray, List.set_cons_zero, List.set_cons_succ])
    refine wpAnyH_take (i := 1) (oi := _) (v := ?_) rfl (by kernel_rfl) (by kernel_rfl) (by kernel_rfl) (fun _ _ _ h => h) (Or.inl ⟨by rfl, ?_⟩) (by assumption) ?_
    rotate_left
    · (intro wx hSw; (try dsimp only at hSw); go_simp; (try with_reducible rfl))
    (try simp only [Act.put, List.getElem_toArray, List.getElem_cons_zero, List.getElem_cons_succ, List.setIfInBounds_toArray, List.set_cons_zero, List.set_cons_succ])
    refine wpAnyH_take (i := 3) (oi := _) (v := ?_) rfl (by kernel_rfl) (by kernel_rfl) (by kernel_rfl) (fun _ _ _ h => h) (Or.inl ⟨by rfl, ?_⟩) (by assumption) ?_
    rotate_left
    · (intro wx hSw; (try dsimp only at hSw); go_simp; (try with_reducible rfl))
    (try simp only [Act.put, List.getElem_toArray, List.getElem_cons_zero, List.getElem_cons_succ, List.setIfInBounds_toArray, List.set_cons_zero, List.set_cons_succ])
    refine wpAnyH_take (i := 4) (oi := _) (v := ?_) rfl (by kernel_rfl) (by kernel_rfl) (by kernel_rfl) (fun _ _ _ h => h) (Or.inl ⟨by rfl, ?_⟩) (by assumption) ?_
    rotate_left
    · (intro wx hSw; (try dsimp only at hSw); go_simp; (try with_reducible rfl))
    (try simp only [Act.put, List.getElem_toArray, List.getElem_cons_zero, List.getElem_cons_succ, List.setIfInBounds_toArray, List.set_cons_zero, List.set_cons_succ])
    refine wpAnyH_take (i := 5) (oi := _) (v := ?_) rfl (by kernel_rfl) (by kernel_rfl) (by kernel_rfl) (fun _ _ _ h => h) (Or.inl ⟨by rfl, ?_⟩) (by assumption) ?_
    rotate_left
    · (intro wx hSw; (try dsimp only at hSw); go_simp; (try with_reducible rfl))
    (try simp only [Act.put, List.getElem_toArray, List.getElem_cons_zero, List.getElem_cons_succ, List.setIfInBounds_toArray, List.set_cons_zero, List.set_cons_succ])
    refine wpAnyH_take (i := 6) (oi := _) (v := ?_) rfl (by kernel_rfl) (by kernel_rfl) (by kernel_rfl) (fun _ _ _ h => h) (Or.inl ⟨by rfl, ?_⟩) (by assumption) ?_
    rotate_left
    · (intro wx hSw; (try dsimp only at hSw); go_simp; (try with_reducible rfl))
    (try simp only [Act.put, List.getElem_toArray, List.getElem_cons_zero, List.getElem_cons_succ, List.setIfInBounds_toArray, List.set_cons_zero, List.set_cons_succ])
    refine wpAnyH_take (i := 7) (oi := _) (v := ?_) rfl (by kernel_rfl) (by kernel_rfl) (by kernel_rfl) (fun _ _ _ h => h) (Or.inl ⟨by rfl, ?_⟩) (by assumption) ?_
    rotate_left
    · (intro wx hSw; (try dsimp only at hSw); go_simp; (try with_reducible rfl))
    (try simp only [Act.put, List.getElem_toArray, List.getElem_cons_zero, List.getElem_cons_succ, List.setIfInBounds_toArray, List.set_cons_zero, List.set_cons_succ])
    refine wpAnyH_take (i := 8) (oi := _) (v := ?_) rfl (by kernel_rfl) (by kernel_rfl) (by kernel_rfl) (fun _ _ _ h => h) (Or.inl ⟨by rfl, ?_⟩) (by assumption) ?_
    rotate_left
    · (intro wx hSw; (try dsimp only at hSw); go_simp; (try with_reducible rfl))
    (try simp only [Act.put, List.getElem_toArray, List.getElem_cons_zero, List.getElem_cons_succ, List.setIfInBounds_toArray, List.set_cons_zero, List.set_cons_succ])
    refine wpAnyH_ready (rs := [2, 10]) (by kernel_rfl) (by simp) ?_
    refine AllReadyH.cons (o := _) rfl (fun K hK => ?_) (AllReadyH.cons (o := _) rfl (fun K hK => ?_) AllReadyH.nil)
    · go_simp
      go_at_call 10
      refine (FW.out _ (T0.out.on (qa.trans (Q.refl _).drew))).mono ?_
      rintro e wa ⟨v1, rfl, o1, qf⟩
      have qx := (Q.refl _).drew.trans qf
      refine hK.out _ _ (KS.out _ qx) (fun hHeld => ?_)
      clear hK K
      (try simp only [Act.put, List.getElem_toArray, List.getElem_cons_zero, List.getElem_cons_succ, List.setIfInBounds_toArray, List.set_cons_zero, List.set_cons_succ])
      refine wpAnyH_ready (rs := [9, 10]) (by kernel_rfl) (by simp) ?_
      refine AllReadyH.cons (o := _) rfl (fun K hK => ?_) (AllReadyH.cons (o := _) rfl (fun K hK => ?_) AllReadyH.nil)
      · go_simp
        go_at_call 11
        refine (ON.out _).mono ?_
        rintro e wb ⟨rfl, qo⟩
        refine hK.out _ _ (KS.out _ (qx.trans qo)) (fun hHeld => ?_)
        clear hK K
        (try simp only [Act.put, List.getElem_toArray, List.getElem_cons_zero, List.getElem_cons_succ, List.setIfInBounds_toArray, List.set_cons_zero, List.set_cons_succ])
        refine wpAnyH_ready (rs := [10]) (by kernel_rfl) (by simp) ?_
        refine AllReadyH.cons (o := _) rfl (fun K hK => ?_) AllReadyH.nil
        go_simp
        refine hK.out _ _ (KS.out _ ((qx.trans qo).alloc _)) (fun hHeld => ?_)
        clear hK K
        (try simp only [Act.put, List.getElem_toArray, List.getElem_cons_zero, List.getElem_cons_succ, List.setIfInBounds_toArray, List.set_cons_zero, List.set_cons_succ])
        refine wpAnyH_take (i := 11) (oi := _) (v := ?_) rfl (by kernel_rfl) (by kernel_rfl) (by kernel_rfl) (fun _ _ _ h => h) (Or.inl ⟨by rfl, ?_⟩) (by assumption) ?_
        rotate_left
        · (intro wx hSw; (try dsimp only at hSw); go_simp; (try with_reducible rfl))
        (try simp only [Act.put, List.getElem_toArray, List.getElem_cons_zero, List.getElem_cons_succ, List.setIfInBounds_toArray, List.set_cons_zero, List.set_cons_succ])
        refine wpAnyH_take (i := 12) (oi := _) (v := ?_) rfl (by kernel_rfl) (by kernel_rfl) (by kernel_rfl) (fun _ _ _ h => h) (Or.inl ⟨by rfl, ?_⟩) (by assumption) ?_
        rotate_left
        · (intro wx hSw; (try dsimp only at hSw); go_simp; (try with_reducible rfl))
        (try simp only [Act.put, List.getElem_toArray, List.getElem_cons_zero, List.getElem_cons_succ, List.setIfInBounds_toArray, List.set_cons_zero, List.set_cons_succ])
        refine wpAnyH_take (i := 13) (oi := _) (v := ?_) rfl (by kernel_rfl) (by kernel_rfl) (by kernel_rfl) (fun _ _ _ h => h) (Or.inl ⟨by rfl, ?_⟩) (by assumption) ?_
        rotate_left
        · (intro wx hSw; (try dsimp only at hSw); go_simp; (try with_reducible rfl))
        (try simp only [Act.put, List.getElem_toArray, List.getElem_cons_zero, List.getElem_cons_succ, List.setIfInBounds_toArray, List.set_cons_zero, List.set_cons_succ])
        refine wpAnyH_ready (rs := [14]) (by kernel_rfl) (by simp) ?_
        refine AllReadyH.cons (o := _) rfl (fun K hK => ?_) AllReadyH.nil
        go_simp
        refine hK.out _ _ (KS.out _ ((qx.trans qo).alloc _)) (fun hHeld => ?_)
        clear hK K
        (try simp only [Act.put, List.getElem_toArray, List.getElem_cons_zero, List.getElem_cons_succ, List.setIfInBounds_toArray, List.set_cons_zero, List.set_cons_succ])
        refine wpAnyH_done (by kernel_rfl) ?_ _
        go_wp2_with fail
        go_meet
        exact ⟨rfl, rfl, ⟨_, rfl, heap_alloc_new wb _⟩, ((o1.vers OK.out).on (qo.alloc _)), qa.trans ((qx.trans qo).alloc _)⟩
      · go_simp
        refine hK.out _ _ (KS.out _ (qx.alloc _)) (fun hHeld => ?_)
        clear hK K
        (try simp only [Act.put, List.getElem_toArray, List.getElem_cons_zero, List.getElem_cons_succ, List.setIfInBounds_toArray, List.set_cons_zero, List.set_cons_succ])
        refine wpAnyH_ready (rs := [9]) (by kernel_rfl) (by simp) ?_
        refine AllReadyH.cons (o := _) rfl (fun K hK => ?_) AllReadyH.nil
        go_simp
        go_at_call 11
        refine (ON.out _).mono ?_
        rintro e wb ⟨rfl, qo⟩
        have qz := (qx.alloc _).trans qo
        refine hK.out _ _ (KS.out _ qz) (fun hHeld => ?_)
        clear hK K
        (try simp only [Act.put, List.getElem_toArray, List.getElem_cons_zero, List.getElem_cons_succ, List.setIfInBounds_toArray, List.set_cons_zero, List.set_cons_succ])
        refine wpAnyH_take (i := 11) (oi := _) (v := ?_) rfl (by kernel_rfl) (by kernel_rfl) (by kernel_rfl) (fun _ _ _ h => h) (Or.inl ⟨by rfl, ?_⟩) (by assumption) ?_
        rotate_left
        · (intro wx hSw; (try dsimp only at hSw); go_simp; (try with_reducible rfl))
        (try simp only [Act.put, List.getElem_toArray, List.getElem_cons_zero, List.getElem_cons_succ, List.setIfInBounds_toArray, List.set_cons_zero, List.set_cons_succ])
        refine wpAnyH_take (i := 12) (oi := _) (v := ?_) rfl (by kernel_rfl) (by kernel_rfl) (by kernel_rfl) (fun _ _ _ h => h) (Or.inl ⟨by rfl, ?_⟩) (by assumption) ?_
        rotate_left
        · (intro wx hSw; (try dsimp only at hSw); go_simp; (try with_reducible rfl))
        (try simp only [Act.put, List.getElem_toArray, List.getElem_cons_zero, List.getElem_cons_succ, List.setIfInBounds_toArray, List.set_cons_zero, List.set_cons_succ])
        refine wpAnyH_take (i := 13) (oi := _) (v := ?_) rfl (by kernel_rfl) (by kernel_rfl) (by kernel_rfl) (fun _ _ _ h => h) (Or.inl ⟨by rfl, ?_⟩) (by assumption) ?_
        rotate_left
        · (intro wx hSw; (try dsimp only at hSw); go_simp; (try with_reducible rfl))
        (try simp only [Act.put, List.getElem_toArray, List.getElem_cons_zero, List.getElem_cons_succ, List.setIfInBounds_toArray, List.set_cons_zero, List.set_cons_succ])
        obtain ⟨b0, b1, b2, b3⟩ := box_of qo
        obtain ⟨f0, f1, f2, f3⟩ := box_free qo
        have hbk := blk_of qo
        refine wpAnyH_ready (rs := [14]) (by kernel_rfl) (by simp) ?_
        refine AllReadyH.cons (o := _) rfl (fun K hK => ?_) AllReadyH.nil
        go_simp
        refine hK.out _ _ (KS.out _ ((((qz.set (Q.size qx) _).set (Q.size qx) _).set (Q.size qx) _).set (Q.size qx) _)) (fun hHeld => ?_)
        clear hK K
        (try simp only [Act.put, List.getElem_toArray, List.getElem_cons_zero, List.getElem_cons_succ, List.setIfInBounds_toArray, List.set_cons_zero, List.set_cons_succ])
        refine wpAnyH_done (by kernel_rfl) ?_ _
        go_wp2_with fail
        go_meet
        exact ⟨rfl, rfl, ⟨_, rfl, blk_set hbk⟩, ((o1.vers OK.out).on (((((((Q.refl _).alloc _).trans qo).set (Nat.le_refl _) _).set (Nat.le_refl _) _).set (Nat.le_refl _) _).set (Nat.le_refl _) _)), qa.trans ((((qz.set (Q.size qx) _).set (Q.size qx) _).set (Q.size qx) _).set (Q.size qx) _)⟩
    · go_simp
      refine hK.out _ _ (KS.out _ ((Q.refl _).alloc _).drew) (fun hHeld => ?_)
      clear hK K
      (try simp only [Act.put, List.getElem_toArray, List.getElem_cons_zero, List.getElem_cons_succ, List.setIfInBounds_toArray, List.set_cons_zero, List.set_cons_succ])
      refine wpAnyH_ready (rs := [2]) (by kernel_rfl) (by simp) ?_
      refine AllReadyH.cons (o := _) rfl (fun K hK => ?_) AllReadyH.nil
      go_simp
      go_at_call 10
      refine (FW.out _ (T0.out.on (qa.trans ((Q.refl _).alloc _).drew))).mono ?_
      rintro e wa ⟨v1, rfl, o1, qf⟩
      have qx := ((Q.refl _).alloc _).drew.trans qf
      refine hK.out _ _ (KS.out _ qx) (fun hHeld => ?_)
      clear hK K
      (try simp only [Act.put, List.getElem_toArray, List.getElem_cons_zero, List.getElem_cons_succ, List.setIfInBounds_toArray, List.set_cons_zero, List.set_cons_succ])
      refine wpAnyH_ready (rs := [9]) (by kernel_rfl) (by simp) ?_
      refine AllReadyH.cons (o := _) rfl (fun K hK => ?_) AllReadyH.nil
      go_simp
      go_at_call 11
      refine (ON.out _).mono ?_
      rintro e wb ⟨rfl, qo0⟩
      have qz := qx.trans qo0
      have qo := (Q.drew (Q.refl _)).trans (qf.trans qo0)
      refine hK.out _ _ (KS.out _ qz) (fun hHeld => ?_)
      clear hK K
      (try simp only [Act.put, List.getElem_toArray, List.getElem_cons_zero, List.getElem_cons_succ, List.setIfInBounds_toArray, List.set_cons_zero, List.set_cons_succ])
      refine wpAnyH_take (i := 11) (oi := _) (v := ?_) rfl (by kernel_rfl) (by kernel_rfl) (by kernel_rfl) (fun _ _ _ h => h) (Or.inl ⟨by rfl, ?_⟩) (by assumption) ?_
      rotate_left
      · (intro wx hSw; (try dsimp only at hSw); go_simp; (try with_reducible rfl))
      (try simp only [Act.put, List.getElem_toArray, List.getElem_cons_zero, List.getElem_cons_succ, List.setIfInBounds_toArray, List.set_cons_zero, List.set_cons_succ])
      refine wpAnyH_take (i := 12) (oi := _) (v := ?_) rfl (by kernel_rfl) (by kernel_rfl) (by kernel_rfl) (fun _ _ _ h => h) (Or.inl ⟨by rfl, ?_⟩) (by assumption) ?_
      rotate_left
      · (intro wx hSw; (try dsimp only at hSw); go_simp; (try with_reducible rfl))
      (try simp only [Act.put, List.getElem_toArray, List.getElem_cons_zero, List.getElem_cons_succ, List.setIfInBounds_toArray, List.set_cons_zero, List.set_cons_succ])
      refine wpAnyH_take (i := 13) (oi := _) (v := ?_) rfl (by kernel_rfl) (by kernel_rfl) (by kernel_rfl) (fun _ _ _ h => h) (Or.inl ⟨by rfl, ?_⟩) (by assumption) ?_
      rotate_left
      · (intro wx hSw; (try dsimp only at hSw); go_simp; (try with_reducible rfl))
      (try simp only [Act.put, List.getElem_toArray, List.getElem_cons_zero, List.getElem_cons_succ, List.setIfInBounds_toArray, List.set_cons_zero, List.set_cons_succ])
      obtain ⟨b0, b1, b2, b3⟩ := box_of qo
      obtain ⟨f0, f1, f2, f3⟩ := box_free qo
      have hbk := blk_of qo
      have hsz1 : (w.alloc (.cells #[.slice A l.length c, .int .u64 (a : Nat), .int .u64 (b : Nat), .int .u64 (x.id : Nat), .string x.data, .bool x.mark, .int .i64 x.tm] 55)).heap.size = w.heap.size + 1 := World.size_alloc _ _
      rw [hsz1] at b0 b1 b2 b3 f0 f1 f2 f3 hbk
      refine wpAnyH_ready (rs := [14]) (by kernel_rfl) (by simp) ?_
      refine AllReadyH.cons (o := _) rfl (fun K hK => ?_) AllReadyH.nil
      go_simp
      refine hK.out _ _ (KS.out _ ((((qz.set (g := w.heap.size + 1) (by simp) _).set (g := w.heap.size + 1) (by simp) _).set (g := w.heap.size + 1) (by simp) _).set (g := w.heap.size + 1) (by simp) _)) (fun hHeld => ?_)
      clear hK K
      (try simp only [Act.put, List.getElem_toArray, List.getElem_cons_zero, List.getElem_cons_succ, List.setIfInBounds_toArray, List.set_cons_zero, List.set_cons_succ])
      refine wpAnyH_done (by kernel_rfl) ?_ _
      go_wp2_with fail
      go_meet
      exact ⟨rfl, rfl, ⟨_, rfl, blk_set hbk⟩, (((((OwnV.on o1 qo0).setAt (by simp)).setAt (by simp)).setAt (by simp)).setAt (by simp)).vers OK.out, qa.trans ((((qz.set (g := w.heap.size + 1) (by simp) _).set (g := w.heap.size + 1) (by simp) _).set (g := w.heap.size + 1) (by simp) _).set (g := w.heap.size + 1) (by simp) _)⟩
  case rest =>
  rename_i wc
  obtain ⟨rfl, rfl, ⟨gb, rfl, hb⟩, t1, qc⟩ := hcut
  have t1 := Lib.hid t1
  have B := Lib.hid (fun d (q : Q wc d) => blk_cell hb q)
  clear FW ON T0 KS hb
  go_wp2_with fail
  refine (DA.out _ _ t1.out).mono ?_
  rintro e w1 ⟨u2, rfl, o2, q1⟩
  have ta := Lib.hid (o2.vers HXL.out)
  clear o2
  go_wp2_with fail
  refine (DB.out _ _ (t1.out.on ((Q.refl _).trans q1))).mono ?_
  rintro e w2 ⟨u3, rfl, o3, q2⟩
  have tb := Lib.hid (o3.vers HYL.out)
  clear o3
  go_wp2_with fail
  refine (FA.out _ _ (ta.out.on ((Q.refl _).trans q2))).mono ?_
  rintro e w3 ⟨rfl, q3⟩
  obtain ⟨b0, b1, b2, b3⟩ := B.out _ (((((Q.refl _).trans q1).trans q2).trans q3).alloc (.cells #[.int .u64 0, .string ⟨#[]⟩, .bool false, .int .i64 0] 25))
  go_wp2_with fail
  refine (PU.out _ _ (t1.out.on (((((Q.refl _).trans q1).trans q2).trans q3).alloc _))).mono ?_
  rintro e w4 ⟨u6, rfl, o6, q4⟩
  have t6 := Lib.hid (o6.vers HNL.out)
  clear o6 b0 b1 b2 b3
  go_wp2_with fail
  refine (awake_any _).mono ?_
  rintro e w5 ⟨rfl, q5⟩
  go_wp2
  go_ret
  exact ⟨rfl, qc.trans (((((((Q.refl _).trans q1).trans q2).trans q3).alloc _).trans q4).trans q5)⟩
set_option maxHeartbeats 4000000 in
set_option maxRecDepth 100000 in
theorem walk_y_yes (u : Value) (l : List Ver) (a b : Nat) (x : Ver) (w : World) (t0 : Vers w w.heap.size u l) (z0 : l.length ≤ maxLen) (ux : okV x) (L : List Ver) (hL : L = fewV l) (hlen : L.length ≤ 21) (hok : ∀ x ∈ L, okV x) (y : Ver) (hyd : y = oneV x) (XL YL NL : List Ver) (xc yc nc : Nat) (hX : DropC L a XL xc) (hY : DropC L b YL yc) (hN : PutC L 1 y NL nc) (hx : xc = 0) (hy0 : yc ≠ 0) (hn : nc = 0) :
    Calls Try.prog 6 #[.agg #[u, .int .u64 (a : Nat), .int .u64 (b : Nat), .int .u64 (x.id : Nat), .string x.data, .bool x.mark, .int .i64 x.tm]] w fun e w' => e = .returned (.bool true) ∧ Q w w' := by
  obtain ⟨A, c, rfl⟩ := t0.shape
  have OK := Lib.hid hok
  have T0 := Lib.hid t0
  have FW : Hid (∀ d (hu : Vers d d.heap.size (.slice A l.length c) l), Calls Try.prog 10 #[.slice A l.length c] d fun e w' => ∃ v', e = .returned v' ∧ OwnV d.heap.size w' v' L ∧ Q d w') := Lib.hid (fun d hu => by rw [hL]; exact few_any l _ d z0 hu)
  have ON := Lib.hid (fun d => one_any x d ux)
  have hy := oneV_ok ux
  rw [← hyd] at ON hy
  rw [ver, ver] at ON
  have qa : Q w (w.alloc (.cells #[.slice A l.length c, .int .u64 (a : Nat), .int .u64 (b : Nat), .int .u64 (x.id : Nat), .string x.data, .bool x.mark, .int .i64 x.tm] 55)) := (Q.refl w).alloc _
  have KS : Hid (∀ d, Q (w.alloc (.cells #[.slice A l.length c, .int .u64 (a : Nat), .int .u64 (b : Nat), .int .u64 (x.id : Nat), .string x.data, .bool x.mark, .int .i64 x.tm] 55)) d → (fun w' => w'.cell? ⟨w.heap.size, 0, none⟩ = some (.slice A l.length c) ∧ w'.cell? ⟨w.heap.size, 1, none⟩ = some (.int .u64 (a : Nat)) ∧ w'.cell? ⟨w.heap.size, 2, none⟩ = some (.int .u64 (b : Nat)) ∧ w'.cell? ⟨w.heap.size, 3, none⟩ = some (.int .u64 (x.id : Nat)) ∧ w'.cell? ⟨w.heap.size, 4, none⟩ = some (.string x.data) ∧ w'.cell? ⟨w.heap.size, 5, none⟩ = some (.bool x.mark) ∧ w'.cell? ⟨w.heap.size, 6, none⟩ = some (.int .i64 x.tm) ∧ Q (w.alloc (.cells #[.slice A l.length c, .int .u64 (a : Nat), .int .u64 (b : Nat), .int .u64 (x.id : Nat), .string x.data, .bool x.mark, .int .i64 x.tm] 55)) w') d) := Lib.hid (by
    intro d q
    obtain ⟨b0, b1, b2, b3, b4, b5, b6⟩ := turn_of q
    exact ⟨b0, b1, b2, b3, b4, b5, b6, q⟩)
  have HXL := Lib.hid (dropC_okV hX hok)
  have HYL := Lib.hid (dropC_okV hY hok)
  have HNL := Lib.hid (putC_okV hN hok hy)
  subst hx
  subst hn
  obtain ⟨-, hB, hokl⟩ := (put_back hN).resolve_left (fun k => k rfl)
  have DA : Hid (∀ (d : World) (u : Value) (hu : Vers d d.heap.size u L), Calls Try.prog 20 #[u, .int .u64 (a : Nat)] d fun e w' => ∃ v', e = .returned (.tuple #[v', .int .i64 0]) ∧ OwnV d.heap.size w' v' XL ∧ Q d w') := Lib.hid (fun d u hu => drop_any L u a d XL _ hX (by omega) hu)
  have DB : Hid (∀ (d : World) (u : Value) (hu : Vers d d.heap.size u L), Calls Try.prog 20 #[u, .int .u64 (b : Nat)] d fun e w' => ∃ v', e = .returned (.tuple #[v', .int .i64 (yc : Nat)]) ∧ OwnV d.heap.size w' v' YL ∧ Q d w') := Lib.hid (fun d u hu => drop_any L u b d YL _ hY (by omega) hu)
  have hxl := dropC_len hX
  have hyl := dropC_len hY
  have hnl := putC_len hN
  have FA : Hid (∀ (d : World) (u : Value) (hu : Vers d d.heap.size u XL), Calls Try.prog 24 #[u, .int .u64 (a : Nat)] d fun e w' => e = .returned (.tuple #[.agg #[.int .u64 0, .string ⟨#[]⟩, .bool false, .int .i64 0], .int .i64 4]) ∧ Q d w') := Lib.hid (fun d u hu => by
    have := find_any XL u a d (drop_okP hX) (by omega) hu
    rw [drop_gone hX] at this
    exact this)
  have PU : Hid (∀ (d : World) (u : Value) (hu : Vers d d.heap.size u L), Calls Try.prog 12 #[u, .int .i64 1, .agg #[.int .u64 (y.id : Nat), .string y.data, .bool y.mark, .int .i64 y.tm]] d fun e w' => ∃ v', e = .returned (.tuple #[v', .int .i64 0]) ∧ OwnV d.heap.size w' v' NL ∧ Q d w') := Lib.hid (fun d u hu => put_any L u 1 y d NL _ hN (by omega) hy hu)
  have hy1 : ((yc : Int) == 0) = false := by
    have : ¬ (yc : Int) = 0 := by omega
    simpa using this
  clear hy0
  have DN : Hid (∀ (d : World) (u : Value) (hu : Vers d d.heap.size u NL), Calls Try.prog 20 #[u, .int .u64 (y.id : Nat)] d fun e w' => ∃ v', e = .returned (.tuple #[v', .int .i64 0]) ∧ OwnV d.heap.size w' v' L ∧ Q d w') := Lib.hid (fun d u hu => drop_any NL u y.id d L _ hB (by omega) hu)
  have SL : Hid (∀ (d : World) (u u2 : Value) (hu : Vers d d.heap.size u L) (hu2 : Vers d d.heap.size u2 L), Calls Try.prog 16 #[u, u2] d fun e w' => e = .returned (.bool true) ∧ Q d w') := Lib.hid (fun d u u2 hu hu2 => same_any L u u2 d (by omega) hu hu2)
  clear hB hokl
  clear hX hY hN hok hL t0 hyd
  go_enter Try.func6, Try.ntmps6
  go_upto_region 1 with fail
  go_cut [3, 4, 5, 6] from 21 to 30 (fun V a' b' g wx => a' = .int .u64 (a : Nat) ∧ b' = .int .u64 (b : Nat) ∧ (∃ gb, g = .pointer (some ⟨gb, 0, none⟩) ∧ wx.heap[gb]? = some (.cells #[.int .u64 (y.id : Nat), .string y.data, .bool y.mark, .int .i64 y.tm] 25)) ∧ Vers wx wx.heap.size V L ∧ Q w wx)
  case first =>
    refine wp_region_held_drew (S := (fun w' => w'.cell? ⟨w.heap.size, 0, none⟩ = some (.slice A l.length c) ∧ w'.cell? ⟨w.heap.size, 1, none⟩ = some (.int .u64 (a : Nat)) ∧ w'.cell? ⟨w.heap.size, 2, none⟩ = some (.int .u64 (b : Nat)) ∧ w'.cell? ⟨w.heap.size, 3, none⟩ = some (.int .u64 (x.id : Nat)) ∧ w'.cell? ⟨w.heap.size, 4, none⟩ = some (.string x.data) ∧ w'.cell? ⟨w.heap.size, 5, none⟩ = some (.bool x.mark) ∧ w'.cell? ⟨w.heap.size, 6, none⟩ = some (.int .i64 x.tm) ∧ Q (w.alloc (.cells #[.slice A l.length c, .int .u64 (a : Nat), .int .u64 (b : Nat), .int .u64 (x.id : Nat), .string x.data, .bool x.mark, .int .i64 x.tm] 55)) w')) (by kernel_rfl) (KS.out _ (Q.refl _).drew) (fun hHeld => ?_)
    refine wpAnyH_take (i := 0) (oi := _) (v := ?_) rfl (by kernel_rfl) (by kernel_rfl) (by kernel_rfl) (fun _ _ _ h => h) (Or.inl ⟨by rfl, ?_⟩) (by assumption) ?_
    rotate_left
    · (intro wx hSw; (try dsimp only at hSw); go_simp; (try with_reducible rfl))
    (try simp only [Act.put, List.getElem_toArray, List.getElem_cons_zero, List.getElem_cons_succ, List.setIfInBounds_toArray, List.set_cons_zero, List.set_cons_succ])
    refine wpAnyH_take (i := 1) (oi := _) (v := ?_) rfl (by kernel_rfl) (by kernel_rfl) (by kernel_rfl) (fun _ _ _ h => h) (Or.inl ⟨by rfl, ?_⟩) (by assumption) ?_
    rotate_left
    · (intro wx hSw; (try dsimp only at hSw); go_simp; (try with_reducible rfl))
    (try simp only [Act.put, List.getElem_toArray, List.getElem_cons_zero, List.getElem_cons_succ, List.setIfInBounds_toArray, List.set_cons_zero, List.set_cons_succ])
    refine wpAnyH_take (i := 3) (oi := _) (v := ?_) rfl (by kernel_rfl) (by kernel_rfl) (by kernel_rfl) (fun _ _ _ h => h) (Or.inl ⟨by rfl, ?_⟩) (by assumption) ?_
    rotate_left
    · (intro wx hSw; (try dsimp only at hSw); go_simp; (try with_reducible rfl))
    (try simp only [Act.put, List.getElem_toArray, List.getElem_cons_zero, List.getElem_cons_succ, List.setIfInBounds_toArray, List.set_cons_zero, List.set_cons_succ])
    refine wpAnyH_take (i := 4) (oi := _) (v := ?_) rfl (by kernel_rfl) (by kernel_rfl) (by kernel_rfl) (fun _ _ _ h => h) (Or.inl ⟨by rfl, ?_⟩) (by assumption) ?_
    rotate_left
    · (intro wx hSw; (try dsimp only at hSw); go_simp; (try with_reducible rfl))
    (try simp only [Act.put, List.getElem_toArray, List.getElem_cons_zero, List.getElem_cons_succ, List.setIfInBounds_toArray, List.set_cons_zero, List.set_cons_succ])
    refine wpAnyH_take (i := 5) (oi := _) (v := ?_) rfl (by kernel_rfl) (by kernel_rfl) (by kernel_rfl) (fun _ _ _ h => h) (Or.inl ⟨by rfl, ?_⟩) (by assumption) ?_
    rotate_left
    · (intro wx hSw; (try dsimp only at hSw); go_simp; (try with_reducible rfl))
    (try simp only [Act.put, List.getElem_toArray, List.getElem_cons_zero, List.getElem_cons_succ, List.setIfInBounds_toArray, List.set_cons_zero, List.set_cons_succ])
    refine wpAnyH_take (i := 6) (oi := _) (v := ?_) rfl (by kernel_rfl) (by kernel_rfl) (by kernel_rfl) (fun _ _ _ h => h) (Or.inl ⟨by rfl, ?_⟩) (by assumption) ?_
    rotate_left
    · (intro wx hSw; (try dsimp only at hSw); go_simp; (try with_reducible rfl))
    (try simp only [Act.put, List.getElem_toArray, List.getElem_cons_zero, List.getElem_cons_succ, List.setIfInBounds_toArray, List.set_cons_zero, List.set_cons_succ])
    refine wpAnyH_take (i := 7) (oi := _) (v := ?_) rfl (by kernel_rfl) (by kernel_rfl) (by kernel_rfl) (fun _ _ _ h => h) (Or.inl ⟨by rfl, ?_⟩) (by assumption) ?_
    rotate_left
    · (intro wx hSw; (try dsimp only at hSw); go_simp; (try with_reducible rfl))
    (try simp only [Act.put, List.getElem_toArray, List.getElem_cons_zero, List.getElem_cons_succ, List.setIfInBounds_toArray, List.set_cons_zero, List.set_cons_succ])
    refine wpAnyH_take (i := 8) (oi := _) (v := ?_) rfl (by kernel_rfl) (by kernel_rfl) (by kernel_rfl) (fun _ _ _ h => h) (Or.inl ⟨by rfl, ?_⟩) (by assumption) ?_
    rotate_left
    · (intro wx hSw; (try dsimp only at hSw); go_simp; (try with_reducible rfl))
    (try simp only [Act.put, List.getElem_toArray, List.getElem_cons_zero, List.getElem_cons_succ, List.setIfInBounds_toArray, List.set_cons_zero, List.set_cons_succ])
    refine wpAnyH_ready (rs := [2, 10]) (by kernel_rfl) (by simp) ?_
    refine AllReadyH.cons (o := _) rfl (fun K hK => ?_) (AllReadyH.cons (o := _) rfl (fun K hK => ?_) AllReadyH.nil)
    · go_simp
      go_at_call 10
      refine (FW.out _ (T0.out.on (qa.trans (Q.refl _).drew))).mono ?_
      rintro e wa ⟨v1, rfl, o1, qf⟩
      have qx := (Q.refl _).drew.trans qf
      refine hK.out _ _ (KS.out _ qx) (fun hHeld => ?_)
      clear hK K
      (try simp only [Act.put, List.getElem_toArray, List.getElem_cons_zero, List.getElem_cons_succ, List.setIfInBounds_toArray, List.set_cons_zero, List.set_cons_succ])
      refine wpAnyH_ready (rs := [9, 10]) (by kernel_rfl) (by simp) ?_
      refine AllReadyH.cons (o := _) rfl (fun K hK => ?_) (AllReadyH.cons (o := _) rfl (fun K hK => ?_) AllReadyH.nil)
      · go_simp
        go_at_call 11
        refine (ON.out _).mono ?_
        rintro e wb ⟨rfl, qo⟩
        refine hK.out _ _ (KS.out _ (qx.trans qo)) (fun hHeld => ?_)
        clear hK K
        (try simp only [Act.put, List.getElem_toArray, List.getElem_cons_zero, List.getElem_cons_succ, List.setIfInBounds_toArray, List.set_cons_zero, List.set_cons_succ])
        refine wpAnyH_ready (rs := [10]) (by kernel_rfl) (by simp) ?_
        refine AllReadyH.cons (o := _) rfl (fun K hK => ?_) AllReadyH.nil
        go_simp
        refine hK.out _ _ (KS.out _ ((qx.trans qo).alloc _)) (fun hHeld => ?_)
        clear hK K
        (try simp only [Act.put, List.getElem_toArray, List.getElem_cons_zero, List.getElem_cons_succ, List.setIfInBounds_toArray, List.set_cons_zero, List.set_cons_succ])
        refine wpAnyH_take (i := 11) (oi := _) (v := ?_) rfl (by kernel_rfl) (by kernel_rfl) (by kernel_rfl) (fun _ _ _ h => h) (Or.inl ⟨by rfl, ?_⟩) (by assumption) ?_
        rotate_left
        · (intro wx hSw; (try dsimp only at hSw); go_simp; (try with_reducible rfl))
        (try simp only [Act.put, List.getElem_toArray, List.getElem_cons_zero, List.getElem_cons_succ, List.setIfInBounds_toArray, List.set_cons_zero, List.set_cons_succ])
        refine wpAnyH_take (i := 12) (oi := _) (v := ?_) rfl (by kernel_rfl) (by kernel_rfl) (by kernel_rfl) (fun _ _ _ h => h) (Or.inl ⟨by rfl, ?_⟩) (by assumption) ?_
        rotate_left
        · (intro wx hSw; (try dsimp only at hSw); go_simp; (try with_reducible rfl))
        (try simp only [Act.put, List.getElem_toArray, List.getElem_cons_zero, List.getElem_cons_succ, List.setIfInBounds_toArray, List.set_cons_zero, List.set_cons_succ])
        refine wpAnyH_take (i := 13) (oi := _) (v := ?_) rfl (by kernel_rfl) (by kernel_rfl) (by kernel_rfl) (fun _ _ _ h => h) (Or.inl ⟨by rfl, ?_⟩) (by assumption) ?_
        rotate_left
        · (intro wx hSw; (try dsimp only at hSw); go_simp; (try with_reducible rfl))
        (try simp only [Act.put, List.getElem_toArray, List.getElem_cons_zero, List.getElem_cons_succ, List.setIfInBounds_toArray, List.set_cons_zero, List.set_cons_succ])
        refine wpAnyH_ready (rs := [14]) (by kernel_rfl) (by simp) ?_
        refine AllReadyH.cons (o := _) rfl (fun K hK => ?_) AllReadyH.nil
        go_simp
        refine hK.out _ _ (KS.out _ ((qx.trans qo).alloc _)) (fun hHeld => ?_)
        clear hK K
        (try simp only [Act.put, List.getElem_toArray, List.getElem_cons_zero, List.getElem_cons_succ, List.setIfInBounds_toArray, List.set_cons_zero, List.set_cons_succ])
        refine wpAnyH_done (by kernel_rfl) ?_ _
        go_wp2_with fail
        go_meet
        exact ⟨rfl, rfl, ⟨_, rfl, heap_alloc_new wb _⟩, ((o1.vers OK.out).on (qo.alloc _)), qa.trans ((qx.trans qo).alloc _)⟩
      · go_simp
        refine hK.out _ _ (KS.out _ (qx.alloc _)) (fun hHeld => ?_)
        clear hK K
        (try simp only [Act.put, List.getElem_toArray, List.getElem_cons_zero, List.getElem_cons_succ, List.setIfInBounds_toArray, List.set_cons_zero, List.set_cons_succ])
        refine wpAnyH_ready (rs := [9]) (by kernel_rfl) (by simp) ?_
        refine AllReadyH.cons (o := _) rfl (fun K hK => ?_) AllReadyH.nil
        go_simp
        go_at_call 11
        refine (ON.out _).mono ?_
        rintro e wb ⟨rfl, qo⟩
        have qz := (qx.alloc _).trans qo
        refine hK.out _ _ (KS.out _ qz) (fun hHeld => ?_)
        clear hK K
        (try simp only [Act.put, List.getElem_toArray, List.getElem_cons_zero, List.getElem_cons_succ, List.setIfInBounds_toArray, List.set_cons_zero, List.set_cons_succ])
        refine wpAnyH_take (i := 11) (oi := _) (v := ?_) rfl (by kernel_rfl) (by kernel_rfl) (by kernel_rfl) (fun _ _ _ h => h) (Or.inl ⟨by rfl, ?_⟩) (by assumption) ?_
        rotate_left
        · (intro wx hSw; (try dsimp only at hSw); go_simp; (try with_reducible rfl))
        (try simp only [Act.put, List.getElem_toArray, List.getElem_cons_zero, List.getElem_cons_succ, List.setIfInBounds_toArray, List.set_cons_zero, List.set_cons_succ])
        refine wpAnyH_take (i := 12) (oi := _) (v := ?_) rfl (by kernel_rfl) (by kernel_rfl) (by kernel_rfl) (fun _ _ _ h => h) (Or.inl ⟨by rfl, ?_⟩) (by assumption) ?_
        rotate_left
        · (intro wx hSw; (try dsimp only at hSw); go_simp; (try with_reducible rfl))
        (try simp only [Act.put, List.getElem_toArray, List.getElem_cons_zero, List.getElem_cons_succ, List.setIfInBounds_toArray, List.set_cons_zero, List.set_cons_succ])
        refine wpAnyH_take (i := 13) (oi := _) (v := ?_) rfl (by kernel_rfl) (by kernel_rfl) (by kernel_rfl) (fun _ _ _ h => h) (Or.inl ⟨by rfl, ?_⟩) (by assumption) ?_
        rotate_left
        · (intro wx hSw; (try dsimp only at hSw); go_simp; (try with_reducible rfl))
        (try simp only [Act.put, List.getElem_toArray, List.getElem_cons_zero, List.getElem_cons_succ, List.setIfInBounds_toArray, List.set_cons_zero, List.set_cons_succ])
        obtain ⟨b0, b1, b2, b3⟩ := box_of qo
        obtain ⟨f0, f1, f2, f3⟩ := box_free qo
        have hbk := blk_of qo
        refine wpAnyH_ready (rs := [14]) (by kernel_rfl) (by simp) ?_
        refine AllReadyH.cons (o := _) rfl (fun K hK => ?_) AllReadyH.nil
        go_simp
        refine hK.out _ _ (KS.out _ ((((qz.set (Q.size qx) _).set (Q.size qx) _).set (Q.size qx) _).set (Q.size qx) _)) (fun hHeld => ?_)
        clear hK K
        (try simp only [Act.put, List.getElem_toArray, List.getElem_cons_zero, List.getElem_cons_succ, List.setIfInBounds_toArray, List.set_cons_zero, List.set_cons_succ])
        refine wpAnyH_done (by kernel_rfl) ?_ _
        go_wp2_with fail
        go_meet
        exact ⟨rfl, rfl, ⟨_, rfl, blk_set hbk⟩, ((o1.vers OK.out).on (((((((Q.refl _).alloc _).trans qo).set (Nat.le_refl _) _).set (Nat.le_refl _) _).set (Nat.le_refl _) _).set (Nat.le_refl _) _)), qa.trans ((((qz.set (Q.size qx) _).set (Q.size qx) _).set (Q.size qx) _).set (Q.size qx) _)⟩
    · go_simp
      refine hK.out _ _ (KS.out _ ((Q.refl _).alloc _).drew) (fun hHeld => ?_)
      clear hK K
      (try simp only [Act.put, List.getElem_toArray, List.getElem_cons_zero, List.getElem_cons_succ, List.setIfInBounds_toArray, List.set_cons_zero, List.set_cons_succ])
      refine wpAnyH_ready (rs := [2]) (by kernel_rfl) (by simp) ?_
      refine AllReadyH.cons (o := _) rfl (fun K hK => ?_) AllReadyH.nil
      go_simp
      go_at_call 10
      refine (FW.out _ (T0.out.on (qa.trans ((Q.refl _).alloc _).drew))).mono ?_
      rintro e wa ⟨v1, rfl, o1, qf⟩
      have qx := ((Q.refl _).alloc _).drew.trans qf
      refine hK.out _ _ (KS.out _ qx) (fun hHeld => ?_)
      clear hK K
      (try simp only [Act.put, List.getElem_toArray, List.getElem_cons_zero, List.getElem_cons_succ, List.setIfInBounds_toArray, List.set_cons_zero, List.set_cons_succ])
      refine wpAnyH_ready (rs := [9]) (by kernel_rfl) (by simp) ?_
      refine AllReadyH.cons (o := _) rfl (fun K hK => ?_) AllReadyH.nil
      go_simp
      go_at_call 11
      refine (ON.out _).mono ?_
      rintro e wb ⟨rfl, qo0⟩
      have qz := qx.trans qo0
      have qo := (Q.drew (Q.refl _)).trans (qf.trans qo0)
      refine hK.out _ _ (KS.out _ qz) (fun hHeld => ?_)
      clear hK K
      (try simp only [Act.put, List.getElem_toArray, List.getElem_cons_zero, List.getElem_cons_succ, List.setIfInBounds_toArray, List.set_cons_zero, List.set_cons_succ])
      refine wpAnyH_take (i := 11) (oi := _) (v := ?_) rfl (by kernel_rfl) (by kernel_rfl) (by kernel_rfl) (fun _ _ _ h => h) (Or.inl ⟨by rfl, ?_⟩) (by assumption) ?_
      rotate_left
      · (intro wx hSw; (try dsimp only at hSw); go_simp; (try with_reducible rfl))
      (try simp only [Act.put, List.getElem_toArray, List.getElem_cons_zero, List.getElem_cons_succ, List.setIfInBounds_toArray, List.set_cons_zero, List.set_cons_succ])
      refine wpAnyH_take (i := 12) (oi := _) (v := ?_) rfl (by kernel_rfl) (by kernel_rfl) (by kernel_rfl) (fun _ _ _ h => h) (Or.inl ⟨by rfl, ?_⟩) (by assumption) ?_
      rotate_left
      · (intro wx hSw; (try dsimp only at hSw); go_simp; (try with_reducible rfl))
      (try simp only [Act.put, List.getElem_toArray, List.getElem_cons_zero, List.getElem_cons_succ, List.setIfInBounds_toArray, List.set_cons_zero, List.set_cons_succ])
      refine wpAnyH_take (i := 13) (oi := _) (v := ?_) rfl (by kernel_rfl) (by kernel_rfl) (by kernel_rfl) (fun _ _ _ h => h) (Or.inl ⟨by rfl, ?_⟩) (by assumption) ?_
      rotate_left
      · (intro wx hSw; (try dsimp only at hSw); go_simp; (try with_reducible rfl))
      (try simp only [Act.put, List.getElem_toArray, List.getElem_cons_zero, List.getElem_cons_succ, List.setIfInBounds_toArray, List.set_cons_zero, List.set_cons_succ])
      obtain ⟨b0, b1, b2, b3⟩ := box_of qo
      obtain ⟨f0, f1, f2, f3⟩ := box_free qo
      have hbk := blk_of qo
      have hsz1 : (w.alloc (.cells #[.slice A l.length c, .int .u64 (a : Nat), .int .u64 (b : Nat), .int .u64 (x.id : Nat), .string x.data, .bool x.mark, .int .i64 x.tm] 55)).heap.size = w.heap.size + 1 := World.size_alloc _ _
      rw [hsz1] at b0 b1 b2 b3 f0 f1 f2 f3 hbk
      refine wpAnyH_ready (rs := [14]) (by kernel_rfl) (by simp) ?_
      refine AllReadyH.cons (o := _) rfl (fun K hK => ?_) AllReadyH.nil
      go_simp
      refine hK.out _ _ (KS.out _ ((((qz.set (g := w.heap.size + 1) (by simp) _).set (g := w.heap.size + 1) (by simp) _).set (g := w.heap.size + 1) (by simp) _).set (g := w.heap.size + 1) (by simp) _)) (fun hHeld => ?_)
      clear hK K
      (try simp only [Act.put, List.getElem_toArray, List.getElem_cons_zero, List.getElem_cons_succ, List.setIfInBounds_toArray, List.set_cons_zero, List.set_cons_succ])
      refine wpAnyH_done (by kernel_rfl) ?_ _
      go_wp2_with fail
      go_meet
      exact ⟨rfl, rfl, ⟨_, rfl, blk_set hbk⟩, (((((OwnV.on o1 qo0).setAt (by simp)).setAt (by simp)).setAt (by simp)).setAt (by simp)).vers OK.out, qa.trans ((((qz.set (g := w.heap.size + 1) (by simp) _).set (g := w.heap.size + 1) (by simp) _).set (g := w.heap.size + 1) (by simp) _).set (g := w.heap.size + 1) (by simp) _)⟩
  case rest =>
  rename_i wc
  obtain ⟨rfl, rfl, ⟨gb, rfl, hb⟩, t1, qc⟩ := hcut
  have t1 := Lib.hid t1
  have B := Lib.hid (fun d (q : Q wc d) => blk_cell hb q)
  clear FW ON T0 KS hb
  go_wp2_with fail
  refine (DA.out _ _ t1.out).mono ?_
  rintro e w1 ⟨u2, rfl, o2, q1⟩
  have ta := Lib.hid (o2.vers HXL.out)
  clear o2
  go_wp2_with fail
  refine (DB.out _ _ (t1.out.on ((Q.refl _).trans q1))).mono ?_
  rintro e w2 ⟨u3, rfl, o3, q2⟩
  have tb := Lib.hid (o3.vers HYL.out)
  clear o3
  go_wp2_with fail
  refine (FA.out _ _ (ta.out.on ((Q.refl _).trans q2))).mono ?_
  rintro e w3 ⟨rfl, q3⟩
  obtain ⟨b0, b1, b2, b3⟩ := B.out _ (((((Q.refl _).trans q1).trans q2).trans q3).alloc (.cells #[.int .u64 0, .string ⟨#[]⟩, .bool false, .int .i64 0] 25))
  go_wp2_with fail
  refine (PU.out _ _ (t1.out.on (((((Q.refl _).trans q1).trans q2).trans q3).alloc _))).mono ?_
  rintro e w4 ⟨u6, rfl, o6, q4⟩
  have t6 := Lib.hid (o6.vers HNL.out)
  clear o6 b0 b1 b2 b3
  obtain ⟨b0, b1, b2, b3⟩ := B.out _ ((((((Q.refl _).trans q1).trans q2).trans q3).alloc (.cells #[.int .u64 0, .string ⟨#[]⟩, .bool false, .int .i64 0] 25)).trans q4)
  go_wp2_with fail
  refine (DN.out _ _ (t6.out.on (Q.refl _))).mono ?_
  rintro e w5 ⟨u7, rfl, o7, q5⟩
  have t7 := Lib.hid (o7.vers OK.out)
  clear o7 b0 b1 b2 b3
  go_wp2_with fail
  refine (SL.out _ _ _ (t7.out.on (Q.refl _)) (t1.out.on (((((((Q.refl _).trans q1).trans q2).trans q3).alloc _).trans q4).trans q5))).mono ?_
  rintro e w6 ⟨rfl, q6⟩
  go_wp2_with fail
  refine (awake_any _).mono ?_
  rintro e w7 ⟨rfl, q7⟩
  go_wp2
  go_ret
  exact ⟨rfl, qc.trans (((((((((Q.refl _).trans q1).trans q2).trans q3).alloc _).trans q4).trans q5).trans q6).trans q7)⟩
set_option maxHeartbeats 4000000 in
set_option maxRecDepth 100000 in
theorem walk_y_no (u : Value) (l : List Ver) (a b : Nat) (x : Ver) (w : World) (t0 : Vers w w.heap.size u l) (z0 : l.length ≤ maxLen) (ux : okV x) (L : List Ver) (hL : L = fewV l) (hlen : L.length ≤ 21) (hok : ∀ x ∈ L, okV x) (y : Ver) (hyd : y = oneV x) (XL YL NL : List Ver) (xc yc nc : Nat) (hX : DropC L a XL xc) (hY : DropC L b YL yc) (hN : PutC L 1 y NL nc) (hx : xc = 0) (hy0 : yc ≠ 0) (hn : nc ≠ 0) :
    Calls Try.prog 6 #[.agg #[u, .int .u64 (a : Nat), .int .u64 (b : Nat), .int .u64 (x.id : Nat), .string x.data, .bool x.mark, .int .i64 x.tm]] w fun e w' => e = .returned (.bool true) ∧ Q w w' := by
  obtain ⟨A, c, rfl⟩ := t0.shape
  have OK := Lib.hid hok
  have T0 := Lib.hid t0
  have FW : Hid (∀ d (hu : Vers d d.heap.size (.slice A l.length c) l), Calls Try.prog 10 #[.slice A l.length c] d fun e w' => ∃ v', e = .returned v' ∧ OwnV d.heap.size w' v' L ∧ Q d w') := Lib.hid (fun d hu => by rw [hL]; exact few_any l _ d z0 hu)
  have ON := Lib.hid (fun d => one_any x d ux)
  have hy := oneV_ok ux
  rw [← hyd] at ON hy
  rw [ver, ver] at ON
  have qa : Q w (w.alloc (.cells #[.slice A l.length c, .int .u64 (a : Nat), .int .u64 (b : Nat), .int .u64 (x.id : Nat), .string x.data, .bool x.mark, .int .i64 x.tm] 55)) := (Q.refl w).alloc _
  have KS : Hid (∀ d, Q (w.alloc (.cells #[.slice A l.length c, .int .u64 (a : Nat), .int .u64 (b : Nat), .int .u64 (x.id : Nat), .string x.data, .bool x.mark, .int .i64 x.tm] 55)) d → (fun w' => w'.cell? ⟨w.heap.size, 0, none⟩ = some (.slice A l.length c) ∧ w'.cell? ⟨w.heap.size, 1, none⟩ = some (.int .u64 (a : Nat)) ∧ w'.cell? ⟨w.heap.size, 2, none⟩ = some (.int .u64 (b : Nat)) ∧ w'.cell? ⟨w.heap.size, 3, none⟩ = some (.int .u64 (x.id : Nat)) ∧ w'.cell? ⟨w.heap.size, 4, none⟩ = some (.string x.data) ∧ w'.cell? ⟨w.heap.size, 5, none⟩ = some (.bool x.mark) ∧ w'.cell? ⟨w.heap.size, 6, none⟩ = some (.int .i64 x.tm) ∧ Q (w.alloc (.cells #[.slice A l.length c, .int .u64 (a : Nat), .int .u64 (b : Nat), .int .u64 (x.id : Nat), .string x.data, .bool x.mark, .int .i64 x.tm] 55)) w') d) := Lib.hid (by
    intro d q
    obtain ⟨b0, b1, b2, b3, b4, b5, b6⟩ := turn_of q
    exact ⟨b0, b1, b2, b3, b4, b5, b6, q⟩)
  have HXL := Lib.hid (dropC_okV hX hok)
  have HYL := Lib.hid (dropC_okV hY hok)
  have HNL := Lib.hid (putC_okV hN hok hy)
  subst hx
  have DA : Hid (∀ (d : World) (u : Value) (hu : Vers d d.heap.size u L), Calls Try.prog 20 #[u, .int .u64 (a : Nat)] d fun e w' => ∃ v', e = .returned (.tuple #[v', .int .i64 0]) ∧ OwnV d.heap.size w' v' XL ∧ Q d w') := Lib.hid (fun d u hu => drop_any L u a d XL _ hX (by omega) hu)
  have DB : Hid (∀ (d : World) (u : Value) (hu : Vers d d.heap.size u L), Calls Try.prog 20 #[u, .int .u64 (b : Nat)] d fun e w' => ∃ v', e = .returned (.tuple #[v', .int .i64 (yc : Nat)]) ∧ OwnV d.heap.size w' v' YL ∧ Q d w') := Lib.hid (fun d u hu => drop_any L u b d YL _ hY (by omega) hu)
  have hxl := dropC_len hX
  have hyl := dropC_len hY
  have hnl := putC_len hN
  have FA : Hid (∀ (d : World) (u : Value) (hu : Vers d d.heap.size u XL), Calls Try.prog 24 #[u, .int .u64 (a : Nat)] d fun e w' => e = .returned (.tuple #[.agg #[.int .u64 0, .string ⟨#[]⟩, .bool false, .int .i64 0], .int .i64 4]) ∧ Q d w') := Lib.hid (fun d u hu => by
    have := find_any XL u a d (drop_okP hX) (by omega) hu
    rw [drop_gone hX] at this
    exact this)
  have PU : Hid (∀ (d : World) (u : Value) (hu : Vers d d.heap.size u L), Calls Try.prog 12 #[u, .int .i64 1, .agg #[.int .u64 (y.id : Nat), .string y.data, .bool y.mark, .int .i64 y.tm]] d fun e w' => ∃ v', e = .returned (.tuple #[v', .int .i64 (nc : Nat)]) ∧ OwnV d.heap.size w' v' NL ∧ Q d w') := Lib.hid (fun d u hu => put_any L u 1 y d NL _ hN (by omega) hy hu)
  have hy1 : ((yc : Int) == 0) = false := by
    have : ¬ (yc : Int) = 0 := by omega
    simpa using this
  clear hy0
  have hn1 : ((nc : Int) != 0) = true := by
    have : ¬ (nc : Int) = 0 := by omega
    simpa using this
  clear hn
  clear hX hY hN hok hL t0 hyd
  go_enter Try.func6, Try.ntmps6
  go_upto_region 1 with fail
  go_cut [3, 4, 5, 6] from 21 to 30 (fun V a' b' g wx => a' = .int .u64 (a : Nat) ∧ b' = .int .u64 (b : Nat) ∧ (∃ gb, g = .pointer (some ⟨gb, 0, none⟩) ∧ wx.heap[gb]? = some (.cells #[.int .u64 (y.id : Nat), .string y.data, .bool y.mark, .int .i64 y.tm] 25)) ∧ Vers wx wx.heap.size V L ∧ Q w wx)
  case first =>
    refine wp_region_held_drew (S := (fun w' => w'.cell? ⟨w.heap.size, 0, none⟩ = some (.slice A l.length c) ∧ w'.cell? ⟨w.heap.size, 1, none⟩ = some (.int .u64 (a : Nat)) ∧ w'.cell? ⟨w.heap.size, 2, none⟩ = some (.int .u64 (b : Nat)) ∧ w'.cell? ⟨w.heap.size, 3, none⟩ = some (.int .u64 (x.id : Nat)) ∧ w'.cell? ⟨w.heap.size, 4, none⟩ = some (.string x.data) ∧ w'.cell? ⟨w.heap.size, 5, none⟩ = some (.bool x.mark) ∧ w'.cell? ⟨w.heap.size, 6, none⟩ = some (.int .i64 x.tm) ∧ Q (w.alloc (.cells #[.slice A l.length c, .int .u64 (a : Nat), .int .u64 (b : Nat), .int .u64 (x.id : Nat), .string x.data, .bool x.mark, .int .i64 x.tm] 55)) w')) (by kernel_rfl) (KS.out _ (Q.refl _).drew) (fun hHeld => ?_)
    refine wpAnyH_take (i := 0) (oi := _) (v := ?_) rfl (by kernel_rfl) (by kernel_rfl) (by kernel_rfl) (fun _ _ _ h => h) (Or.inl ⟨by rfl, ?_⟩) (by assumption) ?_
    rotate_left
    · (intro wx hSw; (try dsimp only at hSw); go_simp; (try with_reducible rfl))
    (try simp only [Act.put, List.getElem_toArray, List.getElem_cons_zero, List.getElem_cons_succ, List.setIfInBounds_toArray, List.set_cons_zero, List.set_cons_succ])
    refine wpAnyH_take (i := 1) (oi := _) (v := ?_) rfl (by kernel_rfl) (by kernel_rfl) (by kernel_rfl) (fun _ _ _ h => h) (Or.inl ⟨by rfl, ?_⟩) (by assumption) ?_
    rotate_left
    · (intro wx hSw; (try dsimp only at hSw); go_simp; (try with_reducible rfl))
    (try simp only [Act.put, List.getElem_toArray, List.getElem_cons_zero, List.getElem_cons_succ, List.setIfInBounds_toArray, List.set_cons_zero, List.set_cons_succ])
    refine wpAnyH_take (i := 3) (oi := _) (v := ?_) rfl (by kernel_rfl) (by kernel_rfl) (by kernel_rfl) (fun _ _ _ h => h) (Or.inl ⟨by rfl, ?_⟩) (by assumption) ?_
    rotate_left
    · (intro wx hSw; (try dsimp only at hSw); go_simp; (try with_reducible rfl))
    (try simp only [Act.put, List.getElem_toArray, List.getElem_cons_zero, List.getElem_cons_succ, List.setIfInBounds_toArray, List.set_cons_zero, List.set_cons_succ])
    refine wpAnyH_take (i := 4) (oi := _) (v := ?_) rfl (by kernel_rfl) (by kernel_rfl) (by kernel_rfl) (fun _ _ _ h => h) (Or.inl ⟨by rfl, ?_⟩) (by assumption) ?_
    rotate_left
    · (intro wx hSw; (try dsimp only at hSw); go_simp; (try with_reducible rfl))
    (try simp only [Act.put, List.getElem_toArray, List.getElem_cons_zero, List.getElem_cons_succ, List.setIfInBounds_toArray, List.set_cons_zero, List.set_cons_succ])
    refine wpAnyH_take (i := 5) (oi := _) (v := ?_) rfl (by kernel_rfl) (by kernel_rfl) (by kernel_rfl) (fun _ _ _ h => h) (Or.inl ⟨by rfl, ?_⟩) (by assumption) ?_
    rotate_left
    · (intro wx hSw; (try dsimp only at hSw); go_simp; (try with_reducible rfl))
    (try simp only [Act.put, List.getElem_toArray, List.getElem_cons_zero, List.getElem_cons_succ, List.setIfInBounds_toArray, List.set_cons_zero, List.set_cons_succ])
    refine wpAnyH_take (i := 6) (oi := _) (v := ?_) rfl (by kernel_rfl) (by kernel_rfl) (by kernel_rfl) (fun _ _ _ h => h) (Or.inl ⟨by rfl, ?_⟩) (by assumption) ?_
    rotate_left
    · (intro wx hSw; (try dsimp only at hSw); go_simp; (try with_reducible rfl))
    (try simp only [Act.put, List.getElem_toArray, List.getElem_cons_zero, List.getElem_cons_succ, List.setIfInBounds_toArray, List.set_cons_zero, List.set_cons_succ])
    refine wpAnyH_take (i := 7) (oi := _) (v := ?_) rfl (by kernel_rfl) (by kernel_rfl) (by kernel_rfl) (fun _ _ _ h => h) (Or.inl ⟨by rfl, ?_⟩) (by assumption) ?_
    rotate_left
    · (intro wx hSw; (try dsimp only at hSw); go_simp; (try with_reducible rfl))
    (try simp only [Act.put, List.getElem_toArray, List.getElem_cons_zero, List.getElem_cons_succ, List.setIfInBounds_toArray, List.set_cons_zero, List.set_cons_succ])
    refine wpAnyH_take (i := 8) (oi := _) (v := ?_) rfl (by kernel_rfl) (by kernel_rfl) (by kernel_rfl) (fun _ _ _ h => h) (Or.inl ⟨by rfl, ?_⟩) (by assumption) ?_
    rotate_left
    · (intro wx hSw; (try dsimp only at hSw); go_simp; (try with_reducible rfl))
    (try simp only [Act.put, List.getElem_toArray, List.getElem_cons_zero, List.getElem_cons_succ, List.setIfInBounds_toArray, List.set_cons_zero, List.set_cons_succ])
    refine wpAnyH_ready (rs := [2, 10]) (by kernel_rfl) (by simp) ?_
    refine AllReadyH.cons (o := _) rfl (fun K hK => ?_) (AllReadyH.cons (o := _) rfl (fun K hK => ?_) AllReadyH.nil)
    · go_simp
      go_at_call 10
      refine (FW.out _ (T0.out.on (qa.trans (Q.refl _).drew))).mono ?_
      rintro e wa ⟨v1, rfl, o1, qf⟩
      have qx := (Q.refl _).drew.trans qf
      refine hK.out _ _ (KS.out _ qx) (fun hHeld => ?_)
      clear hK K
      (try simp only [Act.put, List.getElem_toArray, List.getElem_cons_zero, List.getElem_cons_succ, List.setIfInBounds_toArray, List.set_cons_zero, List.set_cons_succ])
      refine wpAnyH_ready (rs := [9, 10]) (by kernel_rfl) (by simp) ?_
      refine AllReadyH.cons (o := _) rfl (fun K hK => ?_) (AllReadyH.cons (o := _) rfl (fun K hK => ?_) AllReadyH.nil)
      · go_simp
        go_at_call 11
        refine (ON.out _).mono ?_
        rintro e wb ⟨rfl, qo⟩
        refine hK.out _ _ (KS.out _ (qx.trans qo)) (fun hHeld => ?_)
        clear hK K
        (try simp only [Act.put, List.getElem_toArray, List.getElem_cons_zero, List.getElem_cons_succ, List.setIfInBounds_toArray, List.set_cons_zero, List.set_cons_succ])
        refine wpAnyH_ready (rs := [10]) (by kernel_rfl) (by simp) ?_
        refine AllReadyH.cons (o := _) rfl (fun K hK => ?_) AllReadyH.nil
        go_simp
        refine hK.out _ _ (KS.out _ ((qx.trans qo).alloc _)) (fun hHeld => ?_)
        clear hK K
        (try simp only [Act.put, List.getElem_toArray, List.getElem_cons_zero, List.getElem_cons_succ, List.setIfInBounds_toArray, List.set_cons_zero, List.set_cons_succ])
        refine wpAnyH_take (i := 11) (oi := _) (v := ?_) rfl (by kernel_rfl) (by kernel_rfl) (by kernel_rfl) (fun _ _ _ h => h) (Or.inl ⟨by rfl, ?_⟩) (by assumption) ?_
        rotate_left
        · (intro wx hSw; (try dsimp only at hSw); go_simp; (try with_reducible rfl))
        (try simp only [Act.put, List.getElem_toArray, List.getElem_cons_zero, List.getElem_cons_succ, List.setIfInBounds_toArray, List.set_cons_zero, List.set_cons_succ])
        refine wpAnyH_take (i := 12) (oi := _) (v := ?_) rfl (by kernel_rfl) (by kernel_rfl) (by kernel_rfl) (fun _ _ _ h => h) (Or.inl ⟨by rfl, ?_⟩) (by assumption) ?_
        rotate_left
        · (intro wx hSw; (try dsimp only at hSw); go_simp; (try with_reducible rfl))
        (try simp only [Act.put, List.getElem_toArray, List.getElem_cons_zero, List.getElem_cons_succ, List.setIfInBounds_toArray, List.set_cons_zero, List.set_cons_succ])
        refine wpAnyH_take (i := 13) (oi := _) (v := ?_) rfl (by kernel_rfl) (by kernel_rfl) (by kernel_rfl) (fun _ _ _ h => h) (Or.inl ⟨by rfl, ?_⟩) (by assumption) ?_
        rotate_left
        · (intro wx hSw; (try dsimp only at hSw); go_simp; (try with_reducible rfl))
        (try simp only [Act.put, List.getElem_toArray, List.getElem_cons_zero, List.getElem_cons_succ, List.setIfInBounds_toArray, List.set_cons_zero, List.set_cons_succ])
        refine wpAnyH_ready (rs := [14]) (by kernel_rfl) (by simp) ?_
        refine AllReadyH.cons (o := _) rfl (fun K hK => ?_) AllReadyH.nil
        go_simp
        refine hK.out _ _ (KS.out _ ((qx.trans qo).alloc _)) (fun hHeld => ?_)
        clear hK K
        (try simp only [Act.put, List.getElem_toArray, List.getElem_cons_zero, List.getElem_cons_succ, List.setIfInBounds_toArray, List.set_cons_zero, List.set_cons_succ])
        refine wpAnyH_done (by kernel_rfl) ?_ _
        go_wp2_with fail
        go_meet
        exact ⟨rfl, rfl, ⟨_, rfl, heap_alloc_new wb _⟩, ((o1.vers OK.out).on (qo.alloc _)), qa.trans ((qx.trans qo).alloc _)⟩
      · go_simp
        refine hK.out _ _ (KS.out _ (qx.alloc _)) (fun hHeld => ?_)
        clear hK K
        (try simp only [Act.put, List.getElem_toArray, List.getElem_cons_zero, List.getElem_cons_succ, List.setIfInBounds_toArray, List.set_cons_zero, List.set_cons_succ])
        refine wpAnyH_ready (rs := [9]) (by kernel_rfl) (by simp) ?_
        refine AllReadyH.cons (o := _) rfl (fun K hK => ?_) AllReadyH.nil
        go_simp
        go_at_call 11
        refine (ON.out _).mono ?_
        rintro e wb ⟨rfl, qo⟩
        have qz := (qx.alloc _).trans qo
        refine hK.out _ _ (KS.out _ qz) (fun hHeld => ?_)
        clear hK K
        (try simp only [Act.put, List.getElem_toArray, List.getElem_cons_zero, List.getElem_cons_succ, List.setIfInBounds_toArray, List.set_cons_zero, List.set_cons_succ])
        refine wpAnyH_take (i := 11) (oi := _) (v := ?_) rfl (by kernel_rfl) (by kernel_rfl) (by kernel_rfl) (fun _ _ _ h => h) (Or.inl ⟨by rfl, ?_⟩) (by assumption) ?_
        rotate_left
        · (intro wx hSw; (try dsimp only at hSw); go_simp; (try with_reducible rfl))
        (try simp only [Act.put, List.getElem_toArray, List.getElem_cons_zero, List.getElem_cons_succ, List.setIfInBounds_toArray, List.set_cons_zero, List.set_cons_succ])
        refine wpAnyH_take (i := 12) (oi := _) (v := ?_) rfl (by kernel_rfl) (by kernel_rfl) (by kernel_rfl) (fun _ _ _ h => h) (Or.inl ⟨by rfl, ?_⟩) (by assumption) ?_
        rotate_left
        · (intro wx hSw; (try dsimp only at hSw); go_simp; (try with_reducible rfl))
        (try simp only [Act.put, List.getElem_toArray, List.getElem_cons_zero, List.getElem_cons_succ, List.setIfInBounds_toArray, List.set_cons_zero, List.set_cons_succ])
        refine wpAnyH_take (i := 13) (oi := _) (v := ?_) rfl (by kernel_rfl) (by kernel_rfl) (by kernel_rfl) (fun _ _ _ h => h) (Or.inl ⟨by rfl, ?_⟩) (by assumption) ?_
        rotate_left
        · (intro wx hSw; (try dsimp only at hSw); go_simp; (try with_reducible rfl))
        (try simp only [Act.put, List.getElem_toArray, List.getElem_cons_zero, List.getElem_cons_succ, List.setIfInBounds_toArray, List.set_cons_zero, List.set_cons_succ])
        obtain ⟨b0, b1, b2, b3⟩ := box_of qo
        obtain ⟨f0, f1, f2, f3⟩ := box_free qo
        have hbk := blk_of qo
        refine wpAnyH_ready (rs := [14]) (by kernel_rfl) (by simp) ?_
        refine AllReadyH.cons (o := _) rfl (fun K hK => ?_) AllReadyH.nil
        go_simp
        refine hK.out _ _ (KS.out _ ((((qz.set (Q.size qx) _).set (Q.size qx) _).set (Q.size qx) _).set (Q.size qx) _)) (fun hHeld => ?_)
        clear hK K
        (try simp only [Act.put, List.getElem_toArray, List.getElem_cons_zero, List.getElem_cons_succ, List.setIfInBounds_toArray, List.set_cons_zero, List.set_cons_succ])
        refine wpAnyH_done (by kernel_rfl) ?_ _
        go_wp2_with fail
        go_meet
        exact ⟨rfl, rfl, ⟨_, rfl, blk_set hbk⟩, ((o1.vers OK.out).on (((((((Q.refl _).alloc _).trans qo).set (Nat.le_refl _) _).set (Nat.le_refl _) _).set (Nat.le_refl _) _).set (Nat.le_refl _) _)), qa.trans ((((qz.set (Q.size qx) _).set (Q.size qx) _).set (Q.size qx) _).set (Q.size qx) _)⟩
    · go_simp
      refine hK.out _ _ (KS.out _ ((Q.refl _).alloc _).drew) (fun hHeld => ?_)
      clear hK K
      (try simp only [Act.put, List.getElem_toArray, List.getElem_cons_zero, List.getElem_cons_succ, List.setIfInBounds_toArray, List.set_cons_zero, List.set_cons_succ])
      refine wpAnyH_ready (rs := [2]) (by kernel_rfl) (by simp) ?_
      refine AllReadyH.cons (o := _) rfl (fun K hK => ?_) AllReadyH.nil
      go_simp
      go_at_call 10
      refine (FW.out _ (T0.out.on (qa.trans ((Q.refl _).alloc _).drew))).mono ?_
      rintro e wa ⟨v1, rfl, o1, qf⟩
      have qx := ((Q.refl _).alloc _).drew.trans qf
      refine hK.out _ _ (KS.out _ qx) (fun hHeld => ?_)
      clear hK K
      (try simp only [Act.put, List.getElem_toArray, List.getElem_cons_zero, List.getElem_cons_succ, List.setIfInBounds_toArray, List.set_cons_zero, List.set_cons_succ])
      refine wpAnyH_ready (rs := [9]) (by kernel_rfl) (by simp) ?_
      refine AllReadyH.cons (o := _) rfl (fun K hK => ?_) AllReadyH.nil
      go_simp
      go_at_call 11
      refine (ON.out _).mono ?_
      rintro e wb ⟨rfl, qo0⟩
      have qz := qx.trans qo0
      have qo := (Q.drew (Q.refl _)).trans (qf.trans qo0)
      refine hK.out _ _ (KS.out _ qz) (fun hHeld => ?_)
      clear hK K
      (try simp only [Act.put, List.getElem_toArray, List.getElem_cons_zero, List.getElem_cons_succ, List.setIfInBounds_toArray, List.set_cons_zero, List.set_cons_succ])
      refine wpAnyH_take (i := 11) (oi := _) (v := ?_) rfl (by kernel_rfl) (by kernel_rfl) (by kernel_rfl) (fun _ _ _ h => h) (Or.inl ⟨by rfl, ?_⟩) (by assumption) ?_
      rotate_left
      · (intro wx hSw; (try dsimp only at hSw); go_simp; (try with_reducible rfl))
      (try simp only [Act.put, List.getElem_toArray, List.getElem_cons_zero, List.getElem_cons_succ, List.setIfInBounds_toArray, List.set_cons_zero, List.set_cons_succ])
      refine wpAnyH_take (i := 12) (oi := _) (v := ?_) rfl (by kernel_rfl) (by kernel_rfl) (by kernel_rfl) (fun _ _ _ h => h) (Or.inl ⟨by rfl, ?_⟩) (by assumption) ?_
      rotate_left
      · (intro wx hSw; (try dsimp only at hSw); go_simp; (try with_reducible rfl))
      (try simp only [Act.put, List.getElem_toArray, List.getElem_cons_zero, List.getElem_cons_succ, List.setIfInBounds_toArray, List.set_cons_zero, List.set_cons_succ])
      refine wpAnyH_take (i := 13) (oi := _) (v := ?_) rfl (by kernel_rfl) (by kernel_rfl) (by kernel_rfl) (fun _ _ _ h => h) (Or.inl ⟨by rfl, ?_⟩) (by assumption) ?_
      rotate_left
      · (intro wx hSw; (try dsimp only at hSw); go_simp; (try with_reducible rfl))
      (try simp only [Act.put, List.getElem_toArray, List.getElem_cons_zero, List.getElem_cons_succ, List.setIfInBounds_toArray, List.set_cons_zero, List.set_cons_succ])
      obtain ⟨b0, b1, b2, b3⟩ := box_of qo
      obtain ⟨f0, f1, f2, f3⟩ := box_free qo
      have hbk := blk_of qo
      have hsz1 : (w.alloc (.cells #[.slice A l.length c, .int .u64 (a : Nat), .int .u64 (b : Nat), .int .u64 (x.id : Nat), .string x.data, .bool x.mark, .int .i64 x.tm] 55)).heap.size = w.heap.size + 1 := World.size_alloc _ _
      rw [hsz1] at b0 b1 b2 b3 f0 f1 f2 f3 hbk
      refine wpAnyH_ready (rs := [14]) (by kernel_rfl) (by simp) ?_
      refine AllReadyH.cons (o := _) rfl (fun K hK => ?_) AllReadyH.nil
      go_simp
      refine hK.out _ _ (KS.out _ ((((qz.set (g := w.heap.size + 1) (by simp) _).set (g := w.heap.size + 1) (by simp) _).set (g := w.heap.size + 1) (by simp) _).set (g := w.heap.size + 1) (by simp) _)) (fun hHeld => ?_)
      clear hK K
      (try simp only [Act.put, List.getElem_toArray, List.getElem_cons_zero, List.getElem_cons_succ, List.setIfInBounds_toArray, List.set_cons_zero, List.set_cons_succ])
      refine wpAnyH_done (by kernel_rfl) ?_ _
      go_wp2_with fail
      go_meet
      exact ⟨rfl, rfl, ⟨_, rfl, blk_set hbk⟩, (((((OwnV.on o1 qo0).setAt (by simp)).setAt (by simp)).setAt (by simp)).setAt (by simp)).vers OK.out, qa.trans ((((qz.set (g := w.heap.size + 1) (by simp) _).set (g := w.heap.size + 1) (by simp) _).set (g := w.heap.size + 1) (by simp) _).set (g := w.heap.size + 1) (by simp) _)⟩
  case rest =>
  rename_i wc
  obtain ⟨rfl, rfl, ⟨gb, rfl, hb⟩, t1, qc⟩ := hcut
  have t1 := Lib.hid t1
  have B := Lib.hid (fun d (q : Q wc d) => blk_cell hb q)
  clear FW ON T0 KS hb
  go_wp2_with fail
  refine (DA.out _ _ t1.out).mono ?_
  rintro e w1 ⟨u2, rfl, o2, q1⟩
  have ta := Lib.hid (o2.vers HXL.out)
  clear o2
  go_wp2_with fail
  refine (DB.out _ _ (t1.out.on ((Q.refl _).trans q1))).mono ?_
  rintro e w2 ⟨u3, rfl, o3, q2⟩
  have tb := Lib.hid (o3.vers HYL.out)
  clear o3
  go_wp2_with fail
  refine (FA.out _ _ (ta.out.on ((Q.refl _).trans q2))).mono ?_
  rintro e w3 ⟨rfl, q3⟩
  obtain ⟨b0, b1, b2, b3⟩ := B.out _ (((((Q.refl _).trans q1).trans q2).trans q3).alloc (.cells #[.int .u64 0, .string ⟨#[]⟩, .bool false, .int .i64 0] 25))
  go_wp2_with fail
  refine (PU.out _ _ (t1.out.on (((((Q.refl _).trans q1).trans q2).trans q3).alloc _))).mono ?_
  rintro e w4 ⟨u6, rfl, o6, q4⟩
  have t6 := Lib.hid (o6.vers HNL.out)
  clear o6 b0 b1 b2 b3
  go_wp2_with fail
  refine (awake_any _).mono ?_
  rintro e w5 ⟨rfl, q5⟩
  go_wp2
  go_ret
  exact ⟨rfl, qc.trans (((((((Q.refl _).trans q1).trans q2).trans q3).alloc _).trans q4).trans q5)⟩
set_option maxHeartbeats 4000000 in
set_option maxRecDepth 100000 in
theorem walk_eq_yes (u : Value) (l : List Ver) (a b : Nat) (x : Ver) (w : World) (t0 : Vers w w.heap.size u l) (z0 : l.length ≤ maxLen) (ux : okV x) (L : List Ver) (hL : L = fewV l) (hlen : L.length ≤ 21) (hok : ∀ x ∈ L, okV x) (y : Ver) (hyd : y = oneV x) (XL YL NL : List Ver) (xc yc nc : Nat) (hX : DropC L a XL xc) (hY : DropC L b YL yc) (hN : PutC L 1 y NL nc) (hx : xc = 0) (hy0 : yc = 0) (hab : a = b) (hn : nc = 0) :
    Calls Try.prog 6 #[.agg #[u, .int .u64 (a : Nat), .int .u64 (b : Nat), .int .u64 (x.id : Nat), .string x.data, .bool x.mark, .int .i64 x.tm]] w fun e w' => e = .returned (.bool true) ∧ Q w w' := by
  obtain ⟨A, c, rfl⟩ := t0.shape
  have OK := Lib.hid hok
  have T0 := Lib.hid t0
  have FW : Hid (∀ d (hu : Vers d d.heap.size (.slice A l.length c) l), Calls Try.prog 10 #[.slice A l.length c] d fun e w' => ∃ v', e = .returned v' ∧ OwnV d.heap.size w' v' L ∧ Q d w') := Lib.hid (fun d hu => by rw [hL]; exact few_any l _ d z0 hu)
  have ON := Lib.hid (fun d => one_any x d ux)
  have hy := oneV_ok ux
  rw [← hyd] at ON hy
  rw [ver, ver] at ON
  have qa : Q w (w.alloc (.cells #[.slice A l.length c, .int .u64 (a : Nat), .int .u64 (b : Nat), .int .u64 (x.id : Nat), .string x.data, .bool x.mark, .int .i64 x.tm] 55)) := (Q.refl w).alloc _
  have KS : Hid (∀ d, Q (w.alloc (.cells #[.slice A l.length c, .int .u64 (a : Nat), .int .u64 (b : Nat), .int .u64 (x.id : Nat), .string x.data, .bool x.mark, .int .i64 x.tm] 55)) d → (fun w' => w'.cell? ⟨w.heap.size, 0, none⟩ = some (.slice A l.length c) ∧ w'.cell? ⟨w.heap.size, 1, none⟩ = some (.int .u64 (a : Nat)) ∧ w'.cell? ⟨w.heap.size, 2, none⟩ = some (.int .u64 (b : Nat)) ∧ w'.cell? ⟨w.heap.size, 3, none⟩ = some (.int .u64 (x.id : Nat)) ∧ w'.cell? ⟨w.heap.size, 4, none⟩ = some (.string x.data) ∧ w'.cell? ⟨w.heap.size, 5, none⟩ = some (.bool x.mark) ∧ w'.cell? ⟨w.heap.size, 6, none⟩ = some (.int .i64 x.tm) ∧ Q (w.alloc (.cells #[.slice A l.length c, .int .u64 (a : Nat), .int .u64 (b : Nat), .int .u64 (x.id : Nat), .string x.data, .bool x.mark, .int .i64 x.tm] 55)) w') d) := Lib.hid (by
    intro d q
    obtain ⟨b0, b1, b2, b3, b4, b5, b6⟩ := turn_of q
    exact ⟨b0, b1, b2, b3, b4, b5, b6, q⟩)
  have HXL := Lib.hid (dropC_okV hX hok)
  have HYL := Lib.hid (dropC_okV hY hok)
  have HNL := Lib.hid (putC_okV hN hok hy)
  subst hx
  subst hy0
  subst hn
  obtain ⟨-, hB, hokl⟩ := (put_back hN).resolve_left (fun k => k rfl)
  have DA : Hid (∀ (d : World) (u : Value) (hu : Vers d d.heap.size u L), Calls Try.prog 20 #[u, .int .u64 (a : Nat)] d fun e w' => ∃ v', e = .returned (.tuple #[v', .int .i64 0]) ∧ OwnV d.heap.size w' v' XL ∧ Q d w') := Lib.hid (fun d u hu => drop_any L u a d XL _ hX (by omega) hu)
  have DB : Hid (∀ (d : World) (u : Value) (hu : Vers d d.heap.size u L), Calls Try.prog 20 #[u, .int .u64 (b : Nat)] d fun e w' => ∃ v', e = .returned (.tuple #[v', .int .i64 0]) ∧ OwnV d.heap.size w' v' YL ∧ Q d w') := Lib.hid (fun d u hu => drop_any L u b d YL _ hY (by omega) hu)
  have hxl := dropC_len hX
  have hyl := dropC_len hY
  have hnl := putC_len hN
  have FA : Hid (∀ (d : World) (u : Value) (hu : Vers d d.heap.size u XL), Calls Try.prog 24 #[u, .int .u64 (a : Nat)] d fun e w' => e = .returned (.tuple #[.agg #[.int .u64 0, .string ⟨#[]⟩, .bool false, .int .i64 0], .int .i64 4]) ∧ Q d w') := Lib.hid (fun d u hu => by
    have := find_any XL u a d (drop_okP hX) (by omega) hu
    rw [drop_gone hX] at this
    exact this)
  have PU : Hid (∀ (d : World) (u : Value) (hu : Vers d d.heap.size u L), Calls Try.prog 12 #[u, .int .i64 1, .agg #[.int .u64 (y.id : Nat), .string y.data, .bool y.mark, .int .i64 y.tm]] d fun e w' => ∃ v', e = .returned (.tuple #[v', .int .i64 0]) ∧ OwnV d.heap.size w' v' NL ∧ Q d w') := Lib.hid (fun d u hu => put_any L u 1 y d NL _ hN (by omega) hy hu)
  subst hab
  have DN : Hid (∀ (d : World) (u : Value) (hu : Vers d d.heap.size u NL), Calls Try.prog 20 #[u, .int .u64 (y.id : Nat)] d fun e w' => ∃ v', e = .returned (.tuple #[v', .int .i64 0]) ∧ OwnV d.heap.size w' v' L ∧ Q d w') := Lib.hid (fun d u hu => drop_any NL u y.id d L _ hB (by omega) hu)
  have SL : Hid (∀ (d : World) (u u2 : Value) (hu : Vers d d.heap.size u L) (hu2 : Vers d d.heap.size u2 L), Calls Try.prog 16 #[u, u2] d fun e w' => e = .returned (.bool true) ∧ Q d w') := Lib.hid (fun d u u2 hu hu2 => same_any L u u2 d (by omega) hu hu2)
  clear hB hokl
  clear hX hY hN hok hL t0 hyd
  go_enter Try.func6, Try.ntmps6
  go_upto_region 1 with fail
  go_cut [3, 4, 5, 6] from 21 to 30 (fun V a' b' g wx => a' = .int .u64 (a : Nat) ∧ b' = .int .u64 (a : Nat) ∧ (∃ gb, g = .pointer (some ⟨gb, 0, none⟩) ∧ wx.heap[gb]? = some (.cells #[.int .u64 (y.id : Nat), .string y.data, .bool y.mark, .int .i64 y.tm] 25)) ∧ Vers wx wx.heap.size V L ∧ Q w wx)
  case first =>
    refine wp_region_held_drew (S := (fun w' => w'.cell? ⟨w.heap.size, 0, none⟩ = some (.slice A l.length c) ∧ w'.cell? ⟨w.heap.size, 1, none⟩ = some (.int .u64 (a : Nat)) ∧ w'.cell? ⟨w.heap.size, 2, none⟩ = some (.int .u64 (a : Nat)) ∧ w'.cell? ⟨w.heap.size, 3, none⟩ = some (.int .u64 (x.id : Nat)) ∧ w'.cell? ⟨w.heap.size, 4, none⟩ = some (.string x.data) ∧ w'.cell? ⟨w.heap.size, 5, none⟩ = some (.bool x.mark) ∧ w'.cell? ⟨w.heap.size, 6, none⟩ = some (.int .i64 x.tm) ∧ Q (w.alloc (.cells #[.slice A l.length c, .int .u64 (a : Nat), .int .u64 (a : Nat), .int .u64 (x.id : Nat), .string x.data, .bool x.mark, .int .i64 x.tm] 55)) w')) (by kernel_rfl) (KS.out _ (Q.refl _).drew) (fun hHeld => ?_)
    refine wpAnyH_take (i := 0) (oi := _) (v := ?_) rfl (by kernel_rfl) (by kernel_rfl) (by kernel_rfl) (fun _ _ _ h => h) (Or.inl ⟨by rfl, ?_⟩) (by assumption) ?_
    rotate_left
    · (intro wx hSw; (try dsimp only at hSw); go_simp; (try with_reducible rfl))
    (try simp only [Act.put, List.getElem_toArray, List.getElem_cons_zero, List.getElem_cons_succ, List.setIfInBounds_toArray, List.set_cons_zero, List.set_cons_succ])
    refine wpAnyH_take (i := 1) (oi := _) (v := ?_) rfl (by kernel_rfl) (by kernel_rfl) (by kernel_rfl) (fun _ _ _ h => h) (Or.inl ⟨by rfl, ?_⟩) (by assumption) ?_
    rotate_left
    · (intro wx hSw; (try dsimp only at hSw); go_simp; (try with_reducible rfl))
    (try simp only [Act.put, List.getElem_toArray, List.getElem_cons_zero, List.getElem_cons_succ, List.setIfInBounds_toArray, List.set_cons_zero, List.set_cons_succ])
    refine wpAnyH_take (i := 3) (oi := _) (v := ?_) rfl (by kernel_rfl) (by kernel_rfl) (by kernel_rfl) (fun _ _ _ h => h) (Or.inl ⟨by rfl, ?_⟩) (by assumption) ?_
    rotate_left
    · (intro wx hSw; (try dsimp only at hSw); go_simp; (try with_reducible rfl))
    (try simp only [Act.put, List.getElem_toArray, List.getElem_cons_zero, List.getElem_cons_succ, List.setIfInBounds_toArray, List.set_cons_zero, List.set_cons_succ])
    refine wpAnyH_take (i := 4) (oi := _) (v := ?_) rfl (by kernel_rfl) (by kernel_rfl) (by kernel_rfl) (fun _ _ _ h => h) (Or.inl ⟨by rfl, ?_⟩) (by assumption) ?_
    rotate_left
    · (intro wx hSw; (try dsimp only at hSw); go_simp; (try with_reducible rfl))
    (try simp only [Act.put, List.getElem_toArray, List.getElem_cons_zero, List.getElem_cons_succ, List.setIfInBounds_toArray, List.set_cons_zero, List.set_cons_succ])
    refine wpAnyH_take (i := 5) (oi := _) (v := ?_) rfl (by kernel_rfl) (by kernel_rfl) (by kernel_rfl) (fun _ _ _ h => h) (Or.inl ⟨by rfl, ?_⟩) (by assumption) ?_
    rotate_left
    · (intro wx hSw; (try dsimp only at hSw); go_simp; (try with_reducible rfl))
    (try simp only [Act.put, List.getElem_toArray, List.getElem_cons_zero, List.getElem_cons_succ, List.setIfInBounds_toArray, List.set_cons_zero, List.set_cons_succ])
    refine wpAnyH_take (i := 6) (oi := _) (v := ?_) rfl (by kernel_rfl) (by kernel_rfl) (by kernel_rfl) (fun _ _ _ h => h) (Or.inl ⟨by rfl, ?_⟩) (by assumption) ?_
    rotate_left
    · (intro wx hSw; (try dsimp only at hSw); go_simp; (try with_reducible rfl))
    (try simp only [Act.put, List.getElem_toArray, List.getElem_cons_zero, List.getElem_cons_succ, List.setIfInBounds_toArray, List.set_cons_zero, List.set_cons_succ])
    refine wpAnyH_take (i := 7) (oi := _) (v := ?_) rfl (by kernel_rfl) (by kernel_rfl) (by kernel_rfl) (fun _ _ _ h => h) (Or.inl ⟨by rfl, ?_⟩) (by assumption) ?_
    rotate_left
    · (intro wx hSw; (try dsimp only at hSw); go_simp; (try with_reducible rfl))
    (try simp only [Act.put, List.getElem_toArray, List.getElem_cons_zero, List.getElem_cons_succ, List.setIfInBounds_toArray, List.set_cons_zero, List.set_cons_succ])
    refine wpAnyH_take (i := 8) (oi := _) (v := ?_) rfl (by kernel_rfl) (by kernel_rfl) (by kernel_rfl) (fun _ _ _ h => h) (Or.inl ⟨by rfl, ?_⟩) (by assumption) ?_
    rotate_left
    · (intro wx hSw; (try dsimp only at hSw); go_simp; (try with_reducible rfl))
    (try simp only [Act.put, List.getElem_toArray, List.getElem_cons_zero, List.getElem_cons_succ, List.setIfInBounds_toArray, List.set_cons_zero, List.set_cons_succ])
    refine wpAnyH_ready (rs := [2, 10]) (by kernel_rfl) (by simp) ?_
    refine AllReadyH.cons (o := _) rfl (fun K hK => ?_) (AllReadyH.cons (o := _) rfl (fun K hK => ?_) AllReadyH.nil)
    · go_simp
      go_at_call 10
      refine (FW.out _ (T0.out.on (qa.trans (Q.refl _).drew))).mono ?_
      rintro e wa ⟨v1, rfl, o1, qf⟩
      have qx := (Q.refl _).drew.trans qf
      refine hK.out _ _ (KS.out _ qx) (fun hHeld => ?_)
      clear hK K
      (try simp only [Act.put, List.getElem_toArray, List.getElem_cons_zero, List.getElem_cons_succ, List.setIfInBounds_toArray, List.set_cons_zero, List.set_cons_succ])
      refine wpAnyH_ready (rs := [9, 10]) (by kernel_rfl) (by simp) ?_
      refine AllReadyH.cons (o := _) rfl (fun K hK => ?_) (AllReadyH.cons (o := _) rfl (fun K hK => ?_) AllReadyH.nil)
      · go_simp
        go_at_call 11
        refine (ON.out _).mono ?_
        rintro e wb ⟨rfl, qo⟩
        refine hK.out _ _ (KS.out _ (qx.trans qo)) (fun hHeld => ?_)
        clear hK K
        (try simp only [Act.put, List.getElem_toArray, List.getElem_cons_zero, List.getElem_cons_succ, List.setIfInBounds_toArray, List.set_cons_zero, List.set_cons_succ])
        refine wpAnyH_ready (rs := [10]) (by kernel_rfl) (by simp) ?_
        refine AllReadyH.cons (o := _) rfl (fun K hK => ?_) AllReadyH.nil
        go_simp
        refine hK.out _ _ (KS.out _ ((qx.trans qo).alloc _)) (fun hHeld => ?_)
        clear hK K
        (try simp only [Act.put, List.getElem_toArray, List.getElem_cons_zero, List.getElem_cons_succ, List.setIfInBounds_toArray, List.set_cons_zero, List.set_cons_succ])
        refine wpAnyH_take (i := 11) (oi := _) (v := ?_) rfl (by kernel_rfl) (by kernel_rfl) (by kernel_rfl) (fun _ _ _ h => h) (Or.inl ⟨by rfl, ?_⟩) (by assumption) ?_
        rotate_left
        · (intro wx hSw; (try dsimp only at hSw); go_simp; (try with_reducible rfl))
        (try simp only [Act.put, List.getElem_toArray, List.getElem_cons_zero, List.getElem_cons_succ, List.setIfInBounds_toArray, List.set_cons_zero, List.set_cons_succ])
        refine wpAnyH_take (i := 12) (oi := _) (v := ?_) rfl (by kernel_rfl) (by kernel_rfl) (by kernel_rfl) (fun _ _ _ h => h) (Or.inl ⟨by rfl, ?_⟩) (by assumption) ?_
        rotate_left
        · (intro wx hSw; (try dsimp only at hSw); go_simp; (try with_reducible rfl))
        (try simp only [Act.put, List.getElem_toArray, List.getElem_cons_zero, List.getElem_cons_succ, List.setIfInBounds_toArray, List.set_cons_zero, List.set_cons_succ])
        refine wpAnyH_take (i := 13) (oi := _) (v := ?_) rfl (by kernel_rfl) (by kernel_rfl) (by kernel_rfl) (fun _ _ _ h => h) (Or.inl ⟨by rfl, ?_⟩) (by assumption) ?_
        rotate_left
        · (intro wx hSw; (try dsimp only at hSw); go_simp; (try with_reducible rfl))
        (try simp only [Act.put, List.getElem_toArray, List.getElem_cons_zero, List.getElem_cons_succ, List.setIfInBounds_toArray, List.set_cons_zero, List.set_cons_succ])
        refine wpAnyH_ready (rs := [14]) (by kernel_rfl) (by simp) ?_
        refine AllReadyH.cons (o := _) rfl (fun K hK => ?_) AllReadyH.nil
        go_simp
        refine hK.out _ _ (KS.out _ ((qx.trans qo).alloc _)) (fun hHeld => ?_)
        clear hK K
        (try simp only [Act.put, List.getElem_toArray, List.getElem_cons_zero, List.getElem_cons_succ, List.setIfInBounds_toArray, List.set_cons_zero, List.set_cons_succ])
        refine wpAnyH_done (by kernel_rfl) ?_ _
        go_wp2_with fail
        go_meet
        exact ⟨rfl, rfl, ⟨_, rfl, heap_alloc_new wb _⟩, ((o1.vers OK.out).on (qo.alloc _)), qa.trans ((qx.trans qo).alloc _)⟩
      · go_simp
        refine hK.out _ _ (KS.out _ (qx.alloc _)) (fun hHeld => ?_)
        clear hK K
        (try simp only [Act.put, List.getElem_toArray, List.getElem_cons_zero, List.getElem_cons_succ, List.setIfInBounds_toArray, List.set_cons_zero, List.set_cons_succ])
        refine wpAnyH_ready (rs := [9]) (by kernel_rfl) (by simp) ?_
        refine AllReadyH.cons (o := _) rfl (fun K hK => ?_) AllReadyH.nil
        go_simp
        go_at_call 11
        refine (ON.out _).mono ?_
        rintro e wb ⟨rfl, qo⟩
        have qz := (qx.alloc _).trans qo
        refine hK.out _ _ (KS.out _ qz) (fun hHeld => ?_)
        clear hK K
        (try simp only [Act.put, List.getElem_toArray, List.getElem_cons_zero, List.getElem_cons_succ, List.setIfInBounds_toArray, List.set_cons_zero, List.set_cons_succ])
        refine wpAnyH_take (i := 11) (oi := _) (v := ?_) rfl (by kernel_rfl) (by kernel_rfl) (by kernel_rfl) (fun _ _ _ h => h) (Or.inl ⟨by rfl, ?_⟩) (by assumption) ?_
        rotate_left
        · (intro wx hSw; (try dsimp only at hSw); go_simp; (try with_reducible rfl))
        (try simp only [Act.put, List.getElem_toArray, List.getElem_cons_zero, List.getElem_cons_succ, List.setIfInBounds_toArray, List.set_cons_zero, List.set_cons_succ])
        refine wpAnyH_take (i := 12) (oi := _) (v := ?_) rfl (by kernel_rfl) (by kernel_rfl) (by kernel_rfl) (fun _ _ _ h => h) (Or.inl ⟨by rfl, ?_⟩) (by assumption) ?_
        rotate_left
        · (intro wx hSw; (try dsimp only at hSw); go_simp; (try with_reducible rfl))
        (try simp only [Act.put, List.getElem_toArray, List.getElem_cons_zero, List.getElem_cons_succ, List.setIfInBounds_toArray, List.set_cons_zero, List.set_cons_succ])
        refine wpAnyH_take (i := 13) (oi := _) (v := ?_) rfl (by kernel_rfl) (by kernel_rfl) (by kernel_rfl) (fun _ _ _ h => h) (Or.inl ⟨by rfl, ?_⟩) (by assumption) ?_
        rotate_left
        · (intro wx hSw; (try dsimp only at hSw); go_simp; (try with_reducible rfl))
        (try simp only [Act.put, List.getElem_toArray, List.getElem_cons_zero, List.getElem_cons_succ, List.setIfInBounds_toArray, List.set_cons_zero, List.set_cons_succ])
        obtain ⟨b0, b1, b2, b3⟩ := box_of qo
        obtain ⟨f0, f1, f2, f3⟩ := box_free qo
        have hbk := blk_of qo
        refine wpAnyH_ready (rs := [14]) (by kernel_rfl) (by simp) ?_
        refine AllReadyH.cons (o := _) rfl (fun K hK => ?_) AllReadyH.nil
        go_simp
        refine hK.out _ _ (KS.out _ ((((qz.set (Q.size qx) _).set (Q.size qx) _).set (Q.size qx) _).set (Q.size qx) _)) (fun hHeld => ?_)
        clear hK K
        (try simp only [Act.put, List.getElem_toArray, List.getElem_cons_zero, List.getElem_cons_succ, List.setIfInBounds_toArray, List.set_cons_zero, List.set_cons_succ])
        refine wpAnyH_done (by kernel_rfl) ?_ _
        go_wp2_with fail
        go_meet
        exact ⟨rfl, rfl, ⟨_, rfl, blk_set hbk⟩, ((o1.vers OK.out).on (((((((Q.refl _).alloc _).trans qo).set (Nat.le_refl _) _).set (Nat.le_refl _) _).set (Nat.le_refl _) _).set (Nat.le_refl _) _)), qa.trans ((((qz.set (Q.size qx) _).set (Q.size qx) _).set (Q.size qx) _).set (Q.size qx) _)⟩
    · go_simp
      refine hK.out _ _ (KS.out _ ((Q.refl _).alloc _).drew) (fun hHeld => ?_)
      clear hK K
      (try simp only [Act.put, List.getElem_toArray, List.getElem_cons_zero, List.getElem_cons_succ, List.setIfInBounds_toArray, List.set_cons_zero, List.set_cons_succ])
      refine wpAnyH_ready (rs := [2]) (by kernel_rfl) (by simp) ?_
      refine AllReadyH.cons (o := _) rfl (fun K hK => ?_) AllReadyH.nil
      go_simp
      go_at_call 10
      refine (FW.out _ (T0.out.on (qa.trans ((Q.refl _).alloc _).drew))).mono ?_
      rintro e wa ⟨v1, rfl, o1, qf⟩
      have qx := ((Q.refl _).alloc _).drew.trans qf
      refine hK.out _ _ (KS.out _ qx) (fun hHeld => ?_)
      clear hK K
      (try simp only [Act.put, List.getElem_toArray, List.getElem_cons_zero, List.getElem_cons_succ, List.setIfInBounds_toArray, List.set_cons_zero, List.set_cons_succ])
      refine wpAnyH_ready (rs := [9]) (by kernel_rfl) (by simp) ?_
      refine AllReadyH.cons (o := _) rfl (fun K hK => ?_) AllReadyH.nil
      go_simp
      go_at_call 11
      refine (ON.out _).mono ?_
      rintro e wb ⟨rfl, qo0⟩
      have qz := qx.trans qo0
      have qo := (Q.drew (Q.refl _)).trans (qf.trans qo0)
      refine hK.out _ _ (KS.out _ qz) (fun hHeld => ?_)
      clear hK K
      (try simp only [Act.put, List.getElem_toArray, List.getElem_cons_zero, List.getElem_cons_succ, List.setIfInBounds_toArray, List.set_cons_zero, List.set_cons_succ])
      refine wpAnyH_take (i := 11) (oi := _) (v := ?_) rfl (by kernel_rfl) (by kernel_rfl) (by kernel_rfl) (fun _ _ _ h => h) (Or.inl ⟨by rfl, ?_⟩) (by assumption) ?_
      rotate_left
      · (intro wx hSw; (try dsimp only at hSw); go_simp; (try with_reducible rfl))
      (try simp only [Act.put, List.getElem_toArray, List.getElem_cons_zero, List.getElem_cons_succ, List.setIfInBounds_toArray, List.set_cons_zero, List.set_cons_succ])
      refine wpAnyH_take (i := 12) (oi := _) (v := ?_) rfl (by kernel_rfl) (by kernel_rfl) (by kernel_rfl) (fun _ _ _ h => h) (Or.inl ⟨by rfl, ?_⟩) (by assumption) ?_
      rotate_left
      · (intro wx hSw; (try dsimp only at hSw); go_simp; (try with_reducible rfl))
      (try simp only [Act.put, List.getElem_toArray, List.getElem_cons_zero, List.getElem_cons_succ, List.setIfInBounds_toArray, List.set_cons_zero, List.set_cons_succ])
      refine wpAnyH_take (i := 13) (oi := _) (v := ?_) rfl (by kernel_rfl) (by kernel_rfl) (by kernel_rfl) (fun _ _ _ h => h) (Or.inl ⟨by rfl, ?_⟩) (by assumption) ?_
      rotate_left
      · (intro wx hSw; (try dsimp only at hSw); go_simp; (try with_reducible rfl))
      (try simp only [Act.put, List.getElem_toArray, List.getElem_cons_zero, List.getElem_cons_succ, List.setIfInBounds_toArray, List.set_cons_zero, List.set_cons_succ])
      obtain ⟨b0, b1, b2, b3⟩ := box_of qo
      obtain ⟨f0, f1, f2, f3⟩ := box_free qo
      have hbk := blk_of qo
      have hsz1 : (w.alloc (.cells #[.slice A l.length c, .int .u64 (a : Nat), .int .u64 (a : Nat), .int .u64 (x.id : Nat), .string x.data, .bool x.mark, .int .i64 x.tm] 55)).heap.size = w.heap.size + 1 := World.size_alloc _ _
      rw [hsz1] at b0 b1 b2 b3 f0 f1 f2 f3 hbk
      refine wpAnyH_ready (rs := [14]) (by kernel_rfl) (by simp) ?_
      refine AllReadyH.cons (o := _) rfl (fun K hK => ?_) AllReadyH.nil
      go_simp
      refine hK.out _ _ (KS.out _ ((((qz.set (g := w.heap.size + 1) (by simp) _).set (g := w.heap.size + 1) (by simp) _).set (g := w.heap.size + 1) (by simp) _).set (g := w.heap.size + 1) (by simp) _)) (fun hHeld => ?_)
      clear hK K
      (try simp only [Act.put, List.getElem_toArray, List.getElem_cons_zero, List.getElem_cons_succ, List.setIfInBounds_toArray, List.set_cons_zero, List.set_cons_succ])
      refine wpAnyH_done (by kernel_rfl) ?_ _
      go_wp2_with fail
      go_meet
      exact ⟨rfl, rfl, ⟨_, rfl, blk_set hbk⟩, (((((OwnV.on o1 qo0).setAt (by simp)).setAt (by simp)).setAt (by simp)).setAt (by simp)).vers OK.out, qa.trans ((((qz.set (g := w.heap.size + 1) (by simp) _).set (g := w.heap.size + 1) (by simp) _).set (g := w.heap.size + 1) (by simp) _).set (g := w.heap.size + 1) (by simp) _)⟩
  case rest =>
  rename_i wc
  obtain ⟨rfl, rfl, ⟨gb, rfl, hb⟩, t1, qc⟩ := hcut
  have t1 := Lib.hid t1
  have B := Lib.hid (fun d (q : Q wc d) => blk_cell hb q)
  clear FW ON T0 KS hb
  go_wp2_with fail
  refine (DA.out _ _ t1.out).mono ?_
  rintro e w1 ⟨u2, rfl, o2, q1⟩
  have ta := Lib.hid (o2.vers HXL.out)
  clear o2
  go_wp2_with fail
  refine (DB.out _ _ (t1.out.on ((Q.refl _).trans q1))).mono ?_
  rintro e w2 ⟨u3, rfl, o3, q2⟩
  have tb := Lib.hid (o3.vers HYL.out)
  clear o3
  go_wp2_with fail
  refine (FA.out _ _ (ta.out.on ((Q.refl _).trans q2))).mono ?_
  rintro e w3 ⟨rfl, q3⟩
  obtain ⟨b0, b1, b2, b3⟩ := B.out _ (((((Q.refl _).trans q1).trans q2).trans q3).alloc (.cells #[.int .u64 0, .string ⟨#[]⟩, .bool false, .int .i64 0] 25))
  go_wp2_with fail
  refine (PU.out _ _ (t1.out.on (((((Q.refl _).trans q1).trans q2).trans q3).alloc _))).mono ?_
  rintro e w4 ⟨u6, rfl, o6, q4⟩
  have t6 := Lib.hid (o6.vers HNL.out)
  clear o6 b0 b1 b2 b3
  obtain ⟨b0, b1, b2, b3⟩ := B.out _ ((((((Q.refl _).trans q1).trans q2).trans q3).alloc (.cells #[.int .u64 0, .string ⟨#[]⟩, .bool false, .int .i64 0] 25)).trans q4)
  go_wp2_with fail
  refine (DN.out _ _ (t6.out.on (Q.refl _))).mono ?_
  rintro e w5 ⟨u7, rfl, o7, q5⟩
  have t7 := Lib.hid (o7.vers OK.out)
  clear o7 b0 b1 b2 b3
  go_wp2_with fail
  refine (SL.out _ _ _ (t7.out.on (Q.refl _)) (t1.out.on (((((((Q.refl _).trans q1).trans q2).trans q3).alloc _).trans q4).trans q5))).mono ?_
  rintro e w6 ⟨rfl, q6⟩
  go_wp2_with fail
  refine (awake_any _).mono ?_
  rintro e w7 ⟨rfl, q7⟩
  go_wp2
  go_ret
  exact ⟨rfl, qc.trans (((((((((Q.refl _).trans q1).trans q2).trans q3).alloc _).trans q4).trans q5).trans q6).trans q7)⟩
set_option maxHeartbeats 4000000 in
set_option maxRecDepth 100000 in
theorem walk_eq_no (u : Value) (l : List Ver) (a b : Nat) (x : Ver) (w : World) (t0 : Vers w w.heap.size u l) (z0 : l.length ≤ maxLen) (ux : okV x) (L : List Ver) (hL : L = fewV l) (hlen : L.length ≤ 21) (hok : ∀ x ∈ L, okV x) (y : Ver) (hyd : y = oneV x) (XL YL NL : List Ver) (xc yc nc : Nat) (hX : DropC L a XL xc) (hY : DropC L b YL yc) (hN : PutC L 1 y NL nc) (hx : xc = 0) (hy0 : yc = 0) (hab : a = b) (hn : nc ≠ 0) :
    Calls Try.prog 6 #[.agg #[u, .int .u64 (a : Nat), .int .u64 (b : Nat), .int .u64 (x.id : Nat), .string x.data, .bool x.mark, .int .i64 x.tm]] w fun e w' => e = .returned (.bool true) ∧ Q w w' := by
  obtain ⟨A, c, rfl⟩ := t0.shape
  have OK := Lib.hid hok
  have T0 := Lib.hid t0
  have FW : Hid (∀ d (hu : Vers d d.heap.size (.slice A l.length c) l), Calls Try.prog 10 #[.slice A l.length c] d fun e w' => ∃ v', e = .returned v' ∧ OwnV d.heap.size w' v' L ∧ Q d w') := Lib.hid (fun d hu => by rw [hL]; exact few_any l _ d z0 hu)
  have ON := Lib.hid (fun d => one_any x d ux)
  have hy := oneV_ok ux
  rw [← hyd] at ON hy
  rw [ver, ver] at ON
  have qa : Q w (w.alloc (.cells #[.slice A l.length c, .int .u64 (a : Nat), .int .u64 (b : Nat), .int .u64 (x.id : Nat), .string x.data, .bool x.mark, .int .i64 x.tm] 55)) := (Q.refl w).alloc _
  have KS : Hid (∀ d, Q (w.alloc (.cells #[.slice A l.length c, .int .u64 (a : Nat), .int .u64 (b : Nat), .int .u64 (x.id : Nat), .string x.data, .bool x.mark, .int .i64 x.tm] 55)) d → (fun w' => w'.cell? ⟨w.heap.size, 0, none⟩ = some (.slice A l.length c) ∧ w'.cell? ⟨w.heap.size, 1, none⟩ = some (.int .u64 (a : Nat)) ∧ w'.cell? ⟨w.heap.size, 2, none⟩ = some (.int .u64 (b : Nat)) ∧ w'.cell? ⟨w.heap.size, 3, none⟩ = some (.int .u64 (x.id : Nat)) ∧ w'.cell? ⟨w.heap.size, 4, none⟩ = some (.string x.data) ∧ w'.cell? ⟨w.heap.size, 5, none⟩ = some (.bool x.mark) ∧ w'.cell? ⟨w.heap.size, 6, none⟩ = some (.int .i64 x.tm) ∧ Q (w.alloc (.cells #[.slice A l.length c, .int .u64 (a : Nat), .int .u64 (b : Nat), .int .u64 (x.id : Nat), .string x.data, .bool x.mark, .int .i64 x.tm] 55)) w') d) := Lib.hid (by
    intro d q
    obtain ⟨b0, b1, b2, b3, b4, b5, b6⟩ := turn_of q
    exact ⟨b0, b1, b2, b3, b4, b5, b6, q⟩)
  have HXL := Lib.hid (dropC_okV hX hok)
  have HYL := Lib.hid (dropC_okV hY hok)
  have HNL := Lib.hid (putC_okV hN hok hy)
  subst hx
  subst hy0
  have DA : Hid (∀ (d : World) (u : Value) (hu : Vers d d.heap.size u L), Calls Try.prog 20 #[u, .int .u64 (a : Nat)] d fun e w' => ∃ v', e = .returned (.tuple #[v', .int .i64 0]) ∧ OwnV d.heap.size w' v' XL ∧ Q d w') := Lib.hid (fun d u hu => drop_any L u a d XL _ hX (by omega) hu)
  have DB : Hid (∀ (d : World) (u : Value) (hu : Vers d d.heap.size u L), Calls Try.prog 20 #[u, .int .u64 (b : Nat)] d fun e w' => ∃ v', e = .returned (.tuple #[v', .int .i64 0]) ∧ OwnV d.heap.size w' v' YL ∧ Q d w') := Lib.hid (fun d u hu => drop_any L u b d YL _ hY (by omega) hu)
  have hxl := dropC_len hX
  have hyl := dropC_len hY
  have hnl := putC_len hN
  have FA : Hid (∀ (d : World) (u : Value) (hu : Vers d d.heap.size u XL), Calls Try.prog 24 #[u, .int .u64 (a : Nat)] d fun e w' => e = .returned (.tuple #[.agg #[.int .u64 0, .string ⟨#[]⟩, .bool false, .int .i64 0], .int .i64 4]) ∧ Q d w') := Lib.hid (fun d u hu => by
    have := find_any XL u a d (drop_okP hX) (by omega) hu
    rw [drop_gone hX] at this
    exact this)
  have PU : Hid (∀ (d : World) (u : Value) (hu : Vers d d.heap.size u L), Calls Try.prog 12 #[u, .int .i64 1, .agg #[.int .u64 (y.id : Nat), .string y.data, .bool y.mark, .int .i64 y.tm]] d fun e w' => ∃ v', e = .returned (.tuple #[v', .int .i64 (nc : Nat)]) ∧ OwnV d.heap.size w' v' NL ∧ Q d w') := Lib.hid (fun d u hu => put_any L u 1 y d NL _ hN (by omega) hy hu)
  subst hab
  have hn1 : ((nc : Int) != 0) = true := by
    have : ¬ (nc : Int) = 0 := by omega
    simpa using this
  clear hn
  clear hX hY hN hok hL t0 hyd
  go_enter Try.func6, Try.ntmps6
  go_upto_region 1 with fail
  go_cut [3, 4, 5, 6] from 21 to 30 (fun V a' b' g wx => a' = .int .u64 (a : Nat) ∧ b' = .int .u64 (a : Nat) ∧ (∃ gb, g = .pointer (some ⟨gb, 0, none⟩) ∧ wx.heap[gb]? = some (.cells #[.int .u64 (y.id : Nat), .string y.data, .bool y.mark, .int .i64 y.tm] 25)) ∧ Vers wx wx.heap.size V L ∧ Q w wx)
  case first =>
    refine wp_region_held_drew (S := (fun w' => w'.cell? ⟨w.heap.size, 0, none⟩ = some (.slice A l.length c) ∧ w'.cell? ⟨w.heap.size, 1, none⟩ = some (.int .u64 (a : Nat)) ∧ w'.cell? ⟨w.heap.size, 2, none⟩ = some (.int .u64 (a : Nat)) ∧ w'.cell? ⟨w.heap.size, 3, none⟩ = some (.int .u64 (x.id : Nat)) ∧ w'.cell? ⟨w.heap.size, 4, none⟩ = some (.string x.data) ∧ w'.cell? ⟨w.heap.size, 5, none⟩ = some (.bool x.mark) ∧ w'.cell? ⟨w.heap.size, 6, none⟩ = some (.int .i64 x.tm) ∧ Q (w.alloc (.cells #[.slice A l.length c, .int .u64 (a : Nat), .int .u64 (a : Nat), .int .u64 (x.id : Nat), .string x.data, .bool x.mark, .int .i64 x.tm] 55)) w')) (by kernel_rfl) (KS.out _ (Q.refl _).drew) (fun hHeld => ?_)
    refine wpAnyH_take (i := 0) (oi := _) (v := ?_) rfl (by kernel_rfl) (by kernel_rfl) (by kernel_rfl) (fun _ _ _ h => h) (Or.inl ⟨by rfl, ?_⟩) (by assumption) ?_
    rotate_left
    · (intro wx hSw; (try dsimp only at hSw); go_simp; (try with_reducible rfl))
    (try simp only [Act.put, List.getElem_toArray, List.getElem_cons_zero, List.getElem_cons_succ, List.setIfInBounds_toArray, List.set_cons_zero, List.set_cons_succ])
    refine wpAnyH_take (i := 1) (oi := _) (v := ?_) rfl (by kernel_rfl) (by kernel_rfl) (by kernel_rfl) (fun _ _ _ h => h) (Or.inl ⟨by rfl, ?_⟩) (by assumption) ?_
    rotate_left
    · (intro wx hSw; (try dsimp only at hSw); go_simp; (try with_reducible rfl))
    (try simp only [Act.put, List.getElem_toArray, List.getElem_cons_zero, List.getElem_cons_succ, List.setIfInBounds_toArray, List.set_cons_zero, List.set_cons_succ])
    refine wpAnyH_take (i := 3) (oi := _) (v := ?_) rfl (by kernel_rfl) (by kernel_rfl) (by kernel_rfl) (fun _ _ _ h => h) (Or.inl ⟨by rfl, ?_⟩) (by assumption) ?_
    rotate_left
    · (intro wx hSw; (try dsimp only at hSw); go_simp; (try with_reducible rfl))
    (try simp only [Act.put, List.getElem_toArray, List.getElem_cons_zero, List.getElem_cons_succ, List.setIfInBounds_toArray, List.set_cons_zero, List.set_cons_succ])
    refine wpAnyH_take (i := 4) (oi := _) (v := ?_) rfl (by kernel_rfl) (by kernel_rfl) (by kernel_rfl) (fun _ _ _ h => h) (Or.inl ⟨by rfl, ?_⟩) (by assumption) ?_
    rotate_left
    · (intro wx hSw; (try dsimp only at hSw); go_simp; (try with_reducible rfl))
    (try simp only [Act.put, List.getElem_toArray, List.getElem_cons_zero, List.getElem_cons_succ, List.setIfInBounds_toArray, List.set_cons_zero, List.set_cons_succ])
    refine wpAnyH_take (i := 5) (oi := _) (v := ?_) rfl (by kernel_rfl) (by kernel_rfl) (by kernel_rfl) (fun _ _ _ h => h) (Or.inl ⟨by rfl, ?_⟩) (by assumption) ?_
    rotate_left
    · (intro wx hSw; (try dsimp only at hSw); go_simp; (try with_reducible rfl))
    (try simp only [Act.put, List.getElem_toArray, List.getElem_cons_zero, List.getElem_cons_succ, List.setIfInBounds_toArray, List.set_cons_zero, List.set_cons_succ])
    refine wpAnyH_take (i := 6) (oi := _) (v := ?_) rfl (by kernel_rfl) (by kernel_rfl) (by kernel_rfl) (fun _ _ _ h => h) (Or.inl ⟨by rfl, ?_⟩) (by assumption) ?_
    rotate_left
    · (intro wx hSw; (try dsimp only at hSw); go_simp; (try with_reducible rfl))
    (try simp only [Act.put, List.getElem_toArray, List.getElem_cons_zero, List.getElem_cons_succ, List.setIfInBounds_toArray, List.set_cons_zero, List.set_cons_succ])
    refine wpAnyH_take (i := 7) (oi := _) (v := ?_) rfl (by kernel_rfl) (by kernel_rfl) (by kernel_rfl) (fun _ _ _ h => h) (Or.inl ⟨by rfl, ?_⟩) (by assumption) ?_
    rotate_left
    · (intro wx hSw; (try dsimp only at hSw); go_simp; (try with_reducible rfl))
    (try simp only [Act.put, List.getElem_toArray, List.getElem_cons_zero, List.getElem_cons_succ, List.setIfInBounds_toArray, List.set_cons_zero, List.set_cons_succ])
    refine wpAnyH_take (i := 8) (oi := _) (v := ?_) rfl (by kernel_rfl) (by kernel_rfl) (by kernel_rfl) (fun _ _ _ h => h) (Or.inl ⟨by rfl, ?_⟩) (by assumption) ?_
    rotate_left
    · (intro wx hSw; (try dsimp only at hSw); go_simp; (try with_reducible rfl))
    (try simp only [Act.put, List.getElem_toArray, List.getElem_cons_zero, List.getElem_cons_succ, List.setIfInBounds_toArray, List.set_cons_zero, List.set_cons_succ])
    refine wpAnyH_ready (rs := [2, 10]) (by kernel_rfl) (by simp) ?_
    refine AllReadyH.cons (o := _) rfl (fun K hK => ?_) (AllReadyH.cons (o := _) rfl (fun K hK => ?_) AllReadyH.nil)
    · go_simp
      go_at_call 10
      refine (FW.out _ (T0.out.on (qa.trans (Q.refl _).drew))).mono ?_
      rintro e wa ⟨v1, rfl, o1, qf⟩
      have qx := (Q.refl _).drew.trans qf
      refine hK.out _ _ (KS.out _ qx) (fun hHeld => ?_)
      clear hK K
      (try simp only [Act.put, List.getElem_toArray, List.getElem_cons_zero, List.getElem_cons_succ, List.setIfInBounds_toArray, List.set_cons_zero, List.set_cons_succ])
      refine wpAnyH_ready (rs := [9, 10]) (by kernel_rfl) (by simp) ?_
      refine AllReadyH.cons (o := _) rfl (fun K hK => ?_) (AllReadyH.cons (o := _) rfl (fun K hK => ?_) AllReadyH.nil)
      · go_simp
        go_at_call 11
        refine (ON.out _).mono ?_
        rintro e wb ⟨rfl, qo⟩
        refine hK.out _ _ (KS.out _ (qx.trans qo)) (fun hHeld => ?_)
        clear hK K
        (try simp only [Act.put, List.getElem_toArray, List.getElem_cons_zero, List.getElem_cons_succ, List.setIfInBounds_toArray, List.set_cons_zero, List.set_cons_succ])
        refine wpAnyH_ready (rs := [10]) (by kernel_rfl) (by simp) ?_
        refine AllReadyH.cons (o := _) rfl (fun K hK => ?_) AllReadyH.nil
        go_simp
        refine hK.out _ _ (KS.out _ ((qx.trans qo).alloc _)) (fun hHeld => ?_)
        clear hK K
        (try simp only [Act.put, List.getElem_toArray, List.getElem_cons_zero, List.getElem_cons_succ, List.setIfInBounds_toArray, List.set_cons_zero, List.set_cons_succ])
        refine wpAnyH_take (i := 11) (oi := _) (v := ?_) rfl (by kernel_rfl) (by kernel_rfl) (by kernel_rfl) (fun _ _ _ h => h) (Or.inl ⟨by rfl, ?_⟩) (by assumption) ?_
        rotate_left
        · (intro wx hSw; (try dsimp only at hSw); go_simp; (try with_reducible rfl))
        (try simp only [Act.put, List.getElem_toArray, List.getElem_cons_zero, List.getElem_cons_succ, List.setIfInBounds_toArray, List.set_cons_zero, List.set_cons_succ])
        refine wpAnyH_take (i := 12) (oi := _) (v := ?_) rfl (by kernel_rfl) (by kernel_rfl) (by kernel_rfl) (fun _ _ _ h => h) (Or.inl ⟨by rfl, ?_⟩) (by assumption) ?_
        rotate_left
        · (intro wx hSw; (try dsimp only at hSw); go_simp; (try with_reducible rfl))
        (try simp only [Act.put, List.getElem_toArray, List.getElem_cons_zero, List.getElem_cons_succ, List.setIfInBounds_toArray, List.set_cons_zero, List.set_cons_succ])
        refine wpAnyH_take (i := 13) (oi := _) (v := ?_) rfl (by kernel_rfl) (by kernel_rfl) (by kernel_rfl) (fun _ _ _ h => h) (Or.inl ⟨by rfl, ?_⟩) (by assumption) ?_
        rotate_left
        · (intro wx hSw; (try dsimp only at hSw); go_simp; (try with_reducible rfl))
        (try simp only [Act.put, List.getElem_toArray, List.getElem_cons_zero, List.getElem_cons_succ, List.setIfInBounds_toArray, List.set_cons_zero, List.set_cons_succ])
        refine wpAnyH_ready (rs := [14]) (by kernel_rfl) (by simp) ?_
        refine AllReadyH.cons (o := _) rfl (fun K hK => ?_) AllReadyH.nil
        go_simp
        refine hK.out _ _ (KS.out _ ((qx.trans qo).alloc _)) (fun hHeld => ?_)
        clear hK K
        (try simp only [Act.put, List.getElem_toArray, List.getElem_cons_zero, List.getElem_cons_succ, List.setIfInBounds_toArray, List.set_cons_zero, List.set_cons_succ])
        refine wpAnyH_done (by kernel_rfl) ?_ _
        go_wp2_with fail
        go_meet
        exact ⟨rfl, rfl, ⟨_, rfl, heap_alloc_new wb _⟩, ((o1.vers OK.out).on (qo.alloc _)), qa.trans ((qx.trans qo).alloc _)⟩
      · go_simp
        refine hK.out _ _ (KS.out _ (qx.alloc _)) (fun hHeld => ?_)
        clear hK K
        (try simp only [Act.put, List.getElem_toArray, List.getElem_cons_zero, List.getElem_cons_succ, List.setIfInBounds_toArray, List.set_cons_zero, List.set_cons_succ])
        refine wpAnyH_ready (rs := [9]) (by kernel_rfl) (by simp) ?_
        refine AllReadyH.cons (o := _) rfl (fun K hK => ?_) AllReadyH.nil
        go_simp
        go_at_call 11
        refine (ON.out _).mono ?_
        rintro e wb ⟨rfl, qo⟩
        have qz := (qx.alloc _).trans qo
        refine hK.out _ _ (KS.out _ qz) (fun hHeld => ?_)
        clear hK K
        (try simp only [Act.put, List.getElem_toArray, List.getElem_cons_zero, List.getElem_cons_succ, List.setIfInBounds_toArray, List.set_cons_zero, List.set_cons_succ])
        refine wpAnyH_take (i := 11) (oi := _) (v := ?_) rfl (by kernel_rfl) (by kernel_rfl) (by kernel_rfl) (fun _ _ _ h => h) (Or.inl ⟨by rfl, ?_⟩) (by assumption) ?_
        rotate_left
        · (intro wx hSw; (try dsimp only at hSw); go_simp; (try with_reducible rfl))
        (try simp only [Act.put, List.getElem_toArray, List.getElem_cons_zero, List.getElem_cons_succ, List.setIfInBounds_toArray, List.set_cons_zero, List.set_cons_succ])
        refine wpAnyH_take (i := 12) (oi := _) (v := ?_) rfl (by kernel_rfl) (by kernel_rfl) (by kernel_rfl) (fun _ _ _ h => h) (Or.inl ⟨by rfl, ?_⟩) (by assumption) ?_
        rotate_left
        · (intro wx hSw; (try dsimp only at hSw); go_simp; (try with_reducible rfl))
        (try simp only [Act.put, List.getElem_toArray, List.getElem_cons_zero, List.getElem_cons_succ, List.setIfInBounds_toArray, List.set_cons_zero, List.set_cons_succ])
        refine wpAnyH_take (i := 13) (oi := _) (v := ?_) rfl (by kernel_rfl) (by kernel_rfl) (by kernel_rfl) (fun _ _ _ h => h) (Or.inl ⟨by rfl, ?_⟩) (by assumption) ?_
        rotate_left
        · (intro wx hSw; (try dsimp only at hSw); go_simp; (try with_reducible rfl))
        (try simp only [Act.put, List.getElem_toArray, List.getElem_cons_zero, List.getElem_cons_succ, List.setIfInBounds_toArray, List.set_cons_zero, List.set_cons_succ])
        obtain ⟨b0, b1, b2, b3⟩ := box_of qo
        obtain ⟨f0, f1, f2, f3⟩ := box_free qo
        have hbk := blk_of qo
        refine wpAnyH_ready (rs := [14]) (by kernel_rfl) (by simp) ?_
        refine AllReadyH.cons (o := _) rfl (fun K hK => ?_) AllReadyH.nil
        go_simp
        refine hK.out _ _ (KS.out _ ((((qz.set (Q.size qx) _).set (Q.size qx) _).set (Q.size qx) _).set (Q.size qx) _)) (fun hHeld => ?_)
        clear hK K
        (try simp only [Act.put, List.getElem_toArray, List.getElem_cons_zero, List.getElem_cons_succ, List.setIfInBounds_toArray, List.set_cons_zero, List.set_cons_succ])
        refine wpAnyH_done (by kernel_rfl) ?_ _
        go_wp2_with fail
        go_meet
        exact ⟨rfl, rfl, ⟨_, rfl, blk_set hbk⟩, ((o1.vers OK.out).on (((((((Q.refl _).alloc _).trans qo).set (Nat.le_refl _) _).set (Nat.le_refl _) _).set (Nat.le_refl _) _).set (Nat.le_refl _) _)), qa.trans ((((qz.set (Q.size qx) _).set (Q.size qx) _).set (Q.size qx) _).set (Q.size qx) _)⟩
    · go_simp
      refine hK.out _ _ (KS.out _ ((Q.refl _).alloc _).drew) (fun hHeld => ?_)
      clear hK K
      (try simp only [Act.put, List.getElem_toArray, List.getElem_cons_zero, List.getElem_cons_succ, List.setIfInBounds_toArray, List.set_cons_zero, List.set_cons_succ])
      refine wpAnyH_ready (rs := [2]) (by kernel_rfl) (by simp) ?_
      refine AllReadyH.cons (o := _) rfl (fun K hK => ?_) AllReadyH.nil
      go_simp
      go_at_call 10
      refine (FW.out _ (T0.out.on (qa.trans ((Q.refl _).alloc _).drew))).mono ?_
      rintro e wa ⟨v1, rfl, o1, qf⟩
      have qx := ((Q.refl _).alloc _).drew.trans qf
      refine hK.out _ _ (KS.out _ qx) (fun hHeld => ?_)
      clear hK K
      (try simp only [Act.put, List.getElem_toArray, List.getElem_cons_zero, List.getElem_cons_succ, List.setIfInBounds_toArray, List.set_cons_zero, List.set_cons_succ])
      refine wpAnyH_ready (rs := [9]) (by kernel_rfl) (by simp) ?_
      refine AllReadyH.cons (o := _) rfl (fun K hK => ?_) AllReadyH.nil
      go_simp
      go_at_call 11
      refine (ON.out _).mono ?_
      rintro e wb ⟨rfl, qo0⟩
      have qz := qx.trans qo0
      have qo := (Q.drew (Q.refl _)).trans (qf.trans qo0)
      refine hK.out _ _ (KS.out _ qz) (fun hHeld => ?_)
      clear hK K
      (try simp only [Act.put, List.getElem_toArray, List.getElem_cons_zero, List.getElem_cons_succ, List.setIfInBounds_toArray, List.set_cons_zero, List.set_cons_succ])
      refine wpAnyH_take (i := 11) (oi := _) (v := ?_) rfl (by kernel_rfl) (by kernel_rfl) (by kernel_rfl) (fun _ _ _ h => h) (Or.inl ⟨by rfl, ?_⟩) (by assumption) ?_
      rotate_left
      · (intro wx hSw; (try dsimp only at hSw); go_simp; (try with_reducible rfl))
      (try simp only [Act.put, List.getElem_toArray, List.getElem_cons_zero, List.getElem_cons_succ, List.setIfInBounds_toArray, List.set_cons_zero, List.set_cons_succ])
      refine wpAnyH_take (i := 12) (oi := _) (v := ?_) rfl (by kernel_rfl) (by kernel_rfl) (by kernel_rfl) (fun _ _ _ h => h) (Or.inl ⟨by rfl, ?_⟩) (by assumption) ?_
      rotate_left
      · (intro wx hSw; (try dsimp only at hSw); go_simp; (try with_reducible rfl))
      (try simp only [Act.put, List.getElem_toArray, List.getElem_cons_zero, List.getElem_cons_succ, List.setIfInBounds_toArray, List.set_cons_zero, List.set_cons_succ])
      refine wpAnyH_take (i := 13) (oi := _) (v := ?_) rfl (by kernel_rfl) (by kernel_rfl) (by kernel_rfl) (fun _ _ _ h => h) (Or.inl ⟨by rfl, ?_⟩) (by assumption) ?_
      rotate_left
      · (intro wx hSw; (try dsimp only at hSw); go_simp; (try with_reducible rfl))
      (try simp only [Act.put, List.getElem_toArray, List.getElem_cons_zero, List.getElem_cons_succ, List.setIfInBounds_toArray, List.set_cons_zero, List.set_cons_succ])
      obtain ⟨b0, b1, b2, b3⟩ := box_of qo
      obtain ⟨f0, f1, f2, f3⟩ := box_free qo
      have hbk := blk_of qo
      have hsz1 : (w.alloc (.cells #[.slice A l.length c, .int .u64 (a : Nat), .int .u64 (a : Nat), .int .u64 (x.id : Nat), .string x.data, .bool x.mark, .int .i64 x.tm] 55)).heap.size = w.heap.size + 1 := World.size_alloc _ _
      rw [hsz1] at b0 b1 b2 b3 f0 f1 f2 f3 hbk
      refine wpAnyH_ready (rs := [14]) (by kernel_rfl) (by simp) ?_
      refine AllReadyH.cons (o := _) rfl (fun K hK => ?_) AllReadyH.nil
      go_simp
      refine hK.out _ _ (KS.out _ ((((qz.set (g := w.heap.size + 1) (by simp) _).set (g := w.heap.size + 1) (by simp) _).set (g := w.heap.size + 1) (by simp) _).set (g := w.heap.size + 1) (by simp) _)) (fun hHeld => ?_)
      clear hK K
      (try simp only [Act.put, List.getElem_toArray, List.getElem_cons_zero, List.getElem_cons_succ, List.setIfInBounds_toArray, List.set_cons_zero, List.set_cons_succ])
      refine wpAnyH_done (by kernel_rfl) ?_ _
      go_wp2_with fail
      go_meet
      exact ⟨rfl, rfl, ⟨_, rfl, blk_set hbk⟩, (((((OwnV.on o1 qo0).setAt (by simp)).setAt (by simp)).setAt (by simp)).setAt (by simp)).vers OK.out, qa.trans ((((qz.set (g := w.heap.size + 1) (by simp) _).set (g := w.heap.size + 1) (by simp) _).set (g := w.heap.size + 1) (by simp) _).set (g := w.heap.size + 1) (by simp) _)⟩
  case rest =>
  rename_i wc
  obtain ⟨rfl, rfl, ⟨gb, rfl, hb⟩, t1, qc⟩ := hcut
  have t1 := Lib.hid t1
  have B := Lib.hid (fun d (q : Q wc d) => blk_cell hb q)
  clear FW ON T0 KS hb
  go_wp2_with fail
  refine (DA.out _ _ t1.out).mono ?_
  rintro e w1 ⟨u2, rfl, o2, q1⟩
  have ta := Lib.hid (o2.vers HXL.out)
  clear o2
  go_wp2_with fail
  refine (DB.out _ _ (t1.out.on ((Q.refl _).trans q1))).mono ?_
  rintro e w2 ⟨u3, rfl, o3, q2⟩
  have tb := Lib.hid (o3.vers HYL.out)
  clear o3
  go_wp2_with fail
  refine (FA.out _ _ (ta.out.on ((Q.refl _).trans q2))).mono ?_
  rintro e w3 ⟨rfl, q3⟩
  obtain ⟨b0, b1, b2, b3⟩ := B.out _ (((((Q.refl _).trans q1).trans q2).trans q3).alloc (.cells #[.int .u64 0, .string ⟨#[]⟩, .bool false, .int .i64 0] 25))
  go_wp2_with fail
  refine (PU.out _ _ (t1.out.on (((((Q.refl _).trans q1).trans q2).trans q3).alloc _))).mono ?_
  rintro e w4 ⟨u6, rfl, o6, q4⟩
  have t6 := Lib.hid (o6.vers HNL.out)
  clear o6 b0 b1 b2 b3
  go_wp2_with fail
  refine (awake_any _).mono ?_
  rintro e w5 ⟨rfl, q5⟩
  go_wp2
  go_ret
  exact ⟨rfl, qc.trans (((((((Q.refl _).trans q1).trans q2).trans q3).alloc _).trans q4).trans q5)⟩
set_option maxHeartbeats 4000000 in
set_option maxRecDepth 100000 in
theorem walk (u : Value) (l : List Ver) (a b : Nat) (x : Ver) (w : World) (t0 : Vers w w.heap.size u l) (z0 : l.length ≤ maxLen) (ux : okV x) :
    Calls Try.prog 6 #[.agg #[u, .int .u64 (a : Nat), .int .u64 (b : Nat), .int .u64 (x.id : Nat), .string x.data, .bool x.mark, .int .i64 x.tm]] w fun e w' => e = .returned (.bool true) ∧ Q w w' := by
  obtain ⟨L, hL, hlen, hfew, hok, -⟩ := few_all l u w z0 t0
  obtain ⟨y, hyd⟩ : ∃ y, y = oneV x := ⟨_, rfl⟩
  obtain ⟨XL, xc, hX⟩ := dropC_ex L a
  obtain ⟨YL, yc, hY⟩ := dropC_ex L b
  obtain ⟨NL, nc, hN⟩ := putC_ex L 1 y
  by_cases hx : xc = 0
  · by_cases hy : yc = 0
    · by_cases hab : a = b
      · by_cases hn : nc = 0
        · exact walk_eq_yes u l a b x w t0 z0 ux L hL hlen hok y hyd XL YL NL xc yc nc hX hY hN hx hy hab hn
        · exact walk_eq_no u l a b x w t0 z0 ux L hL hlen hok y hyd XL YL NL xc yc nc hX hY hN hx hy hab hn
      · by_cases hn : nc = 0
        · exact walk_all_yes u l a b x w t0 z0 ux L hL hlen hok y hyd XL YL NL xc yc nc hX hY hN hx hy hab hn
        · exact walk_all_no u l a b x w t0 z0 ux L hL hlen hok y hyd XL YL NL xc yc nc hX hY hN hx hy hab hn
    · by_cases hn : nc = 0
      · exact walk_y_yes u l a b x w t0 z0 ux L hL hlen hok y hyd XL YL NL xc yc nc hX hY hN hx hy hn
      · exact walk_y_no u l a b x w t0 z0 ux L hL hlen hok y hyd XL YL NL xc yc nc hX hY hN hx hy hn
  · by_cases hn : nc = 0
    · exact walk_x_yes u l a b x w t0 z0 ux L hL hlen hok y hyd XL YL NL xc yc nc hX hY hN hx hn
    · exact walk_x_no u l a b x w t0 z0 ux L hL hlen hok y hyd XL YL NL xc yc nc hX hY hN hx hn

set_option maxRecDepth 100000 in
theorem lifted (os : Os) (started : os.Started) (H : Type) (enc : TypeId × Value → H) :
    ReturnsInHanded {} Try.checked os 6 .any (Rows.chainTurnsSpec.pre6 enc Try.prog Try.f6 Rows.chainTurnsRow.domain false) (Rows.chainTurnsSpec.post enc Try.prog Try.f6 false true false false) := by
  refine returnsInHanded_of_change (C := Try.checked) own started (by kernel_rfl) Try.func6
    (ChangeSpec.witness6 (enc := enc) (C := Try.checked) false ⟨#[], #[.agg #[.slice none 0 0, .int .u64 0, .int .u64 0, .int .u64 0, .string ByteArray.empty, .bool false, .int .i64 0]], []⟩ 8 (by kernel_rfl) (by kernel_rfl) (by kernel_rfl) (by kernel_rfl)) ?_
  intro W base args ds gs before hval0 hW hcnd _
  have hval : ∀ (j : Nat) t v, Try.f6.params[j]? = some t → args[j]? = some v → Value.okWide Try.prog W .any base t v := hval0
  have hW' := hW
  obtain ⟨p, q, hA0, hV, rfl, hfz, hnd⟩ := hW
  have hA : DataW.TrodAll enc Try.prog W 0 (fun _ => true) true Try.f6.params.toList args.toList ds p := hA0
  rw [Try.params6] at hA hval
  obtain ⟨v0, vs0, d0, ds0, p0, q0, hargs, rfl, rfl, h0, r0⟩ := trodAll_cons hA
  obtain ⟨rfl, rfl, rfl⟩ := trodAll_nil r0
  obtain rfl : args = #[v0] := by cases args; simp_all
  obtain ⟨rfl, rfl⟩ := trodVars_none hV
  clear hA0 hval0
  simp only [List.append_nil] at hW'
  have hlt : ∀ x ∈ p0, x.block < W.heap.size := fun x hx => by simpa using hW'.lt x (by simpa using hx)
  obtain ⟨u0, l0, a0, b0, x0, rfl, t0, z0, k0⟩ := open_turn (hval 0 55 v0 rfl rfl) h0
  refine (walk u0 l0 a0 b0 x0 W t0 z0 k0).mono fun e W' ⟨he, bel⟩ => ?_
  subst he
  refine ⟨_, rfl, _, _, _, [], _, [], hW', trodAll_mk1 (shut_bool Try.underlying4 _), (trodAll_cons_mk (Below.trod laid (by kernel_rfl) (of_decide_eq_true (by kernel_rfl)) h0 bel (fun x hx => hlt x (by simp [hx]))) trodAll_mk0), rfl, Below.frame bel _, fun h => by cases h⟩

theorem over : Rows.chainTurnsRow.holds Try.pinned (OpenSpec.ofChange Rows.chainTurnsSpec) :=
  OpenClaim.holds_of_wide 6 Try.f6 rfl rfl rfl rfl rfl rfl rfl ⟨rfl, rfl, rfl, rfl, rfl⟩ rfl rfl rfl rfl rfl (by kernel_rfl) Try.func6 (by kernel_rfl)
    (of_decide_eq_true (by kernel_rfl)) (by unfold Func.isWrapper; first | (rw [if_pos (by decide +kernel)]; kernel_rfl) | (rw [if_neg (by decide +kernel)]; exact ⟨rfl, rfl⟩))
    (fun os started H enc _ => lifted os started H enc)

theorem proved : Rows.ChainTurnsSaid := over
#print axioms proved
end Go.Proofs.Ytflfhigldkdlmaa.chainTurns
