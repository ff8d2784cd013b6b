/-
  Contract of the document's Put, where it goes.
-/
import Derived.Test.YtflfhigldkdlmaaPRputA
namespace Go.Proofs.Ytflfhigldkdlmaa
open Go.ChangeShapes Go.WideShapes Go.ChangeAt Go.RowKit
set_option linter.unusedVariables false
set_option linter.unusedSimpArgs false

set_option maxHeartbeats 3000000 in
set_option maxRecDepth 100000 in
theorem rput_large0_first (l : List Ver) (v : Value) (s : Int) (x : Ver) (w : World) (hR : okP l) (hs : s = 0 ∨ s = 2) (hm : mayV x = true) (h0 : 0 < l.length) (htm : l[0].tm ≤ x.tm) (h20 : 20 ≤ (woV l 0).length) (hl : l.length ≤ 900) (hx : okV x) (ht : Vers w w.heap.size v l) :
    Calls Try.prog 13 #[v, .int .i64 s, ver x] w fun e w' => ∃ v', e = .returned (.tuple #[v', .int .i64 6]) ∧ OwnV w.heap.size w' v' [] ∧ Q w w' := by
  have OKW := Lib.hid (wo_ok (id := 0) ht.okAll)
  have WO : Hid (∀ b, Q w b → Calls Try.prog 31 #[v, .int .u64 0] b fun e w' => ∃ v', e = .returned v' ∧ OwnV b.heap.size w' v' (woV l 0) ∧ Q b w') := Lib.hid (fun b q => rwithout_any l v 0 b (by omega) (ht.on q))
  have T := Lib.hid ht
  have qa : Q w (w.alloc (.cells #[.int .u64 (x.id : Nat), .string x.data, .bool x.mark, .int .i64 x.tm] 25)) := (Q.refl w).alloc _
  obtain ⟨A, cc, rfl, -, -, -, hcs⟩ := ht
  obtain ⟨a, rfl, ha, hat⟩ := hcs 0 h0
  rw [Nat.zero_mul, show a.add 0 = a by cases a; simp [Addr.add]] at hat
  obtain ⟨y, hy⟩ : ∃ y, y = l[0].tm := ⟨_, rfl⟩
  have HA : Hid (∀ b, Q w b → b.cell? ⟨a.block, a.off + 3, none⟩ = some (.int .i64 y)) := Lib.hid (fun b q => by rw [hy]; exact (hat.keep ha fun _ hp => q.cell hp).2.2.2)
  have hlp : (0 : Int) < (l.length : Int) := by omega
  rw [← hy] at htm
  clear hcs hat hy
  have KS : Hid (∀ b, Q (w.alloc (.cells #[.int .u64 (x.id : Nat), .string x.data, .bool x.mark, .int .i64 x.tm] 25)) b → (fun w' => w'.cell? ⟨w.heap.size, 0, none⟩ = some (.int .u64 (x.id : Nat)) ∧ w'.cell? ⟨w.heap.size, 1, none⟩ = some (.string x.data) ∧ w'.cell? ⟨w.heap.size, 2, none⟩ = some (.bool x.mark) ∧ w'.cell? ⟨w.heap.size, 3, none⟩ = some (.int .i64 x.tm) ∧ w'.cell? ⟨a.block, a.off + 3, none⟩ = some (.int .i64 y) ∧ Q (w.alloc (.cells #[.int .u64 (x.id : Nat), .string x.data, .bool x.mark, .int .i64 x.tm] 25)) w') b) := Lib.hid (by
    intro b q
    obtain ⟨b0, b1, b2, b3⟩ := box_of q
    exact ⟨b0, b1, b2, b3, HA.out b (qa.trans q), q⟩)
  have CK : Hid (∀ b, (fun w' => w'.cell? ⟨w.heap.size, 0, none⟩ = some (.int .u64 (x.id : Nat)) ∧ w'.cell? ⟨w.heap.size, 1, none⟩ = some (.string x.data) ∧ w'.cell? ⟨w.heap.size, 2, none⟩ = some (.bool x.mark) ∧ w'.cell? ⟨w.heap.size, 3, none⟩ = some (.int .i64 x.tm) ∧ w'.cell? ⟨a.block, a.off + 3, none⟩ = some (.int .i64 y) ∧ Q (w.alloc (.cells #[.int .u64 (x.id : Nat), .string x.data, .bool x.mark, .int .i64 x.tm] 25)) w') b → Calls Try.prog 18 #[.slice (some a) l.length cc] b fun e w' => e = .returned (.bool true) ∧ (fun w' => w'.cell? ⟨w.heap.size, 0, none⟩ = some (.int .u64 (x.id : Nat)) ∧ w'.cell? ⟨w.heap.size, 1, none⟩ = some (.string x.data) ∧ w'.cell? ⟨w.heap.size, 2, none⟩ = some (.bool x.mark) ∧ w'.cell? ⟨w.heap.size, 3, none⟩ = some (.int .i64 x.tm) ∧ w'.cell? ⟨a.block, a.off + 3, none⟩ = some (.int .i64 y) ∧ Q (w.alloc (.cells #[.int .u64 (x.id : Nat), .string x.data, .bool x.mark, .int .i64 x.tm] 25)) w') w') := Lib.hid (by
    intro b h
    refine (rcheck_any l _ b true (.inl ⟨rfl, hR⟩) (by omega) (T.out.on (qa.trans h.2.2.2.2.2))).mono ?_
    rintro e w' ⟨rfl, q'⟩
    exact ⟨rfl, KS.out _ (Q.trans h.2.2.2.2.2 q')⟩)
  have MA : Hid (∀ b, (fun w' => w'.cell? ⟨w.heap.size, 0, none⟩ = some (.int .u64 (x.id : Nat)) ∧ w'.cell? ⟨w.heap.size, 1, none⟩ = some (.string x.data) ∧ w'.cell? ⟨w.heap.size, 2, none⟩ = some (.bool x.mark) ∧ w'.cell? ⟨w.heap.size, 3, none⟩ = some (.int .i64 x.tm) ∧ w'.cell? ⟨a.block, a.off + 3, none⟩ = some (.int .i64 y) ∧ Q (w.alloc (.cells #[.int .u64 (x.id : Nat), .string x.data, .bool x.mark, .int .i64 x.tm] 25)) w') b → Calls Try.prog 30 #[.agg #[.int .u64 (x.id : Nat), .string x.data, .bool x.mark, .int .i64 x.tm]] b fun e w' => e = .returned (.bool true) ∧ (fun w' => w'.cell? ⟨w.heap.size, 0, none⟩ = some (.int .u64 (x.id : Nat)) ∧ w'.cell? ⟨w.heap.size, 1, none⟩ = some (.string x.data) ∧ w'.cell? ⟨w.heap.size, 2, none⟩ = some (.bool x.mark) ∧ w'.cell? ⟨w.heap.size, 3, none⟩ = some (.int .i64 x.tm) ∧ w'.cell? ⟨a.block, a.off + 3, none⟩ = some (.int .i64 y) ∧ Q (w.alloc (.cells #[.int .u64 (x.id : Nat), .string x.data, .bool x.mark, .int .i64 x.tm] 25)) w') w') := Lib.hid (by
    intro b h
    have M := rmay_any x b
    rw [hm, ver] at M
    refine M.mono ?_
    rintro e w' ⟨rfl, q'⟩
    exact ⟨rfl, KS.out _ (Q.trans h.2.2.2.2.2 q')⟩)
  have SN : Hid ((fun w' => w'.cell? ⟨w.heap.size, 0, none⟩ = some (.int .u64 (x.id : Nat)) ∧ w'.cell? ⟨w.heap.size, 1, none⟩ = some (.string x.data) ∧ w'.cell? ⟨w.heap.size, 2, none⟩ = some (.bool x.mark) ∧ w'.cell? ⟨w.heap.size, 3, none⟩ = some (.int .i64 x.tm) ∧ w'.cell? ⟨a.block, a.off + 3, none⟩ = some (.int .i64 y) ∧ Q (w.alloc (.cells #[.int .u64 (x.id : Nat), .string x.data, .bool x.mark, .int .i64 x.tm] 25)) w') (w.alloc (.cells #[.int .u64 (x.id : Nat), .string x.data, .bool x.mark, .int .i64 x.tm] 25)).drew) := Lib.hid (KS.out _ (Q.refl _).drew)
  have hs0 : ¬ s < 0 := by omega
  have hs2 : ¬ 2 < s := by omega
  have hs1 : ¬ s = 1 := by omega
  have hs1b : (s == 1) = false := by simpa using hs1
  have htm' : ¬ x.tm < y := by omega
  clear hR hm hs
  rw [ver]
  go_enter Try.func13, Try.ntmps13
  go_wp2_with fail
  refine wp_region_held_drew (S := (fun w' => w'.cell? ⟨w.heap.size, 0, none⟩ = some (.int .u64 (x.id : Nat)) ∧ w'.cell? ⟨w.heap.size, 1, none⟩ = some (.string x.data) ∧ w'.cell? ⟨w.heap.size, 2, none⟩ = some (.bool x.mark) ∧ w'.cell? ⟨w.heap.size, 3, none⟩ = some (.int .i64 x.tm) ∧ w'.cell? ⟨a.block, a.off + 3, none⟩ = some (.int .i64 y) ∧ Q (w.alloc (.cells #[.int .u64 (x.id : Nat), .string x.data, .bool x.mark, .int .i64 x.tm] 25)) w')) (by kernel_rfl) SN.out (fun hHeld => ?_)
  refine wpAnyH_take (i := 0) (oi := _) (v := ?_) rfl (by kernel_rfl) (by kernel_rfl) (by kernel_rfl) (fun _ _ _ h => h) (Or.inl ⟨by rfl, ?_⟩) (by assumption) ?_
  rotate_left
  · (intro wx hSw; (try dsimp only at hSw); go_simp; (try with_reducible rfl))
  (try simp only [Act.put, List.getElem_toArray, List.getElem_cons_zero, List.getElem_cons_succ, List.setIfInBounds_toArray, List.set_cons_zero, List.set_cons_succ])
  refine wpAnyH_ready (rs := [1]) (by kernel_rfl) (by simp) ?_
  refine AllReadyH.cons (o := _) rfl (fun K hK => ?_) AllReadyH.nil
  go_simp
  go_at_call 18
  refine (CK.out _ (by assumption)).mono ?_
  rintro e w' ⟨rfl, hS⟩
  refine hK.out _ _ hS (fun hHeld => ?_)
  clear hK K
  (try simp only [Act.put, List.getElem_toArray, List.getElem_cons_zero, List.getElem_cons_succ, List.setIfInBounds_toArray, List.set_cons_zero, List.set_cons_succ])
  refine wpAnyH_take (i := 2) (oi := _) (v := .bool false) rfl (by kernel_rfl) (by kernel_rfl) (by kernel_rfl) (fun _ _ _ h => h) (Or.inl ⟨by rfl, ?_⟩) (by assumption) ?_
  · (intro wx hSw; (try dsimp only at hSw); go_simp; (try omega); (try simp [*]); (try omega))
  (try simp only [Act.put, List.getElem_toArray, List.getElem_cons_zero, List.getElem_cons_succ, List.setIfInBounds_toArray, List.set_cons_zero, List.set_cons_succ])
  refine wpAnyH_take (i := 3) (oi := _) (v := .bool false) rfl (by kernel_rfl) (by kernel_rfl) (by kernel_rfl) (fun _ _ _ h => h) (Or.inl ⟨by rfl, ?_⟩) (by assumption) ?_
  · (intro wx hSw; (try dsimp only at hSw); go_simp; (try omega); (try simp [*]); (try omega))
  (try simp only [Act.put, List.getElem_toArray, List.getElem_cons_zero, List.getElem_cons_succ, List.setIfInBounds_toArray, List.set_cons_zero, List.set_cons_succ])
  refine wpAnyH_take (i := 4) (oi := _) (v := ?_) rfl (by kernel_rfl) (by kernel_rfl) (by kernel_rfl) (fun _ _ _ h => h) (Or.inl ⟨by rfl, ?_⟩) (by assumption) ?_
  rotate_left
  · (intro wx hSw; (try dsimp only at hSw); go_simp; (try with_reducible rfl))
  (try simp only [Act.put, List.getElem_toArray, List.getElem_cons_zero, List.getElem_cons_succ, List.setIfInBounds_toArray, List.set_cons_zero, List.set_cons_succ])
  refine wpAnyH_take (i := 5) (oi := _) (v := .bool false) rfl (by kernel_rfl) (by kernel_rfl) (by kernel_rfl) (fun _ _ _ h => h) (Or.inl ⟨by rfl, ?_⟩) (by assumption) ?_
  · (intro wx hSw; (try dsimp only at hSw); go_simp; (try omega); (try simp [*]); (try omega))
  (try simp only [Act.put, List.getElem_toArray, List.getElem_cons_zero, List.getElem_cons_succ, List.setIfInBounds_toArray, List.set_cons_zero, List.set_cons_succ])
  refine wpAnyH_take (i := 6) (oi := _) (v := .bool false) rfl (by kernel_rfl) (by kernel_rfl) (by kernel_rfl) (fun _ _ _ h => h) (Or.inl ⟨by rfl, ?_⟩) (by assumption) ?_
  · (intro wx hSw; (try dsimp only at hSw); go_simp; (try omega); (try simp [*]); (try omega))
  (try simp only [Act.put, List.getElem_toArray, List.getElem_cons_zero, List.getElem_cons_succ, List.setIfInBounds_toArray, List.set_cons_zero, List.set_cons_succ])
  refine wpAnyH_take (i := 7) (oi := _) (v := .bool false) rfl (by kernel_rfl) (by kernel_rfl) (by kernel_rfl) (fun _ _ _ h => h) (Or.inl ⟨by rfl, ?_⟩) (by assumption) ?_
  · (intro wx hSw; (try dsimp only at hSw); go_simp; (try omega); (try simp [*]); (try omega))
  (try simp only [Act.put, List.getElem_toArray, List.getElem_cons_zero, List.getElem_cons_succ, List.setIfInBounds_toArray, List.set_cons_zero, List.set_cons_succ])
  refine wpAnyH_take (i := 8) (oi := _) (v := ?_) rfl (by kernel_rfl) (by kernel_rfl) (by kernel_rfl) (fun _ _ _ h => h) (Or.inl ⟨by rfl, ?_⟩) (by assumption) ?_
  rotate_left
  · (intro wx hSw; (try dsimp only at hSw); go_simp; (try with_reducible rfl))
  (try simp only [Act.put, List.getElem_toArray, List.getElem_cons_zero, List.getElem_cons_succ, List.setIfInBounds_toArray, List.set_cons_zero, List.set_cons_succ])
  refine wpAnyH_take (i := 9) (oi := _) (v := .bool false) rfl (by kernel_rfl) (by kernel_rfl) (by kernel_rfl) (fun _ _ _ h => h) (Or.inl ⟨by rfl, ?_⟩) (by assumption) ?_
  · (intro wx hSw; (try dsimp only at hSw); go_simp; (try omega); (try simp [*]); (try omega))
  (try simp only [Act.put, List.getElem_toArray, List.getElem_cons_zero, List.getElem_cons_succ, List.setIfInBounds_toArray, List.set_cons_zero, List.set_cons_succ])
  refine wpAnyH_take (i := 10) (oi := _) (v := .bool false) rfl (by kernel_rfl) (by kernel_rfl) (by kernel_rfl) (fun _ _ _ h => h) (Or.inl ⟨by rfl, ?_⟩) (by assumption) ?_
  · (intro wx hSw; (try dsimp only at hSw); go_simp; (try omega); (try simp [*]); (try omega))
  (try simp only [Act.put, List.getElem_toArray, List.getElem_cons_zero, List.getElem_cons_succ, List.setIfInBounds_toArray, List.set_cons_zero, List.set_cons_succ])
  refine wpAnyH_take (i := 11) (oi := _) (v := .bool false) rfl (by kernel_rfl) (by kernel_rfl) (by kernel_rfl) (fun _ _ _ h => h) (Or.inl ⟨by rfl, ?_⟩) (by assumption) ?_
  · (intro wx hSw; (try dsimp only at hSw); go_simp; (try omega); (try simp [*]); (try omega))
  (try simp only [Act.put, List.getElem_toArray, List.getElem_cons_zero, List.getElem_cons_succ, List.setIfInBounds_toArray, List.set_cons_zero, List.set_cons_succ])
  refine wpAnyH_take (i := 12) (oi := _) (v := ?_) rfl (by kernel_rfl) (by kernel_rfl) (by kernel_rfl) (fun _ _ _ h => h) (Or.inl ⟨by rfl, ?_⟩) (by assumption) ?_
  rotate_left
  · (intro wx hSw; (try dsimp only at hSw); go_simp; (try with_reducible rfl))
  (try simp only [Act.put, List.getElem_toArray, List.getElem_cons_zero, List.getElem_cons_succ, List.setIfInBounds_toArray, List.set_cons_zero, List.set_cons_succ])
  refine wpAnyH_ready (rs := [13]) (by kernel_rfl) (by simp) ?_
  refine AllReadyH.cons (o := _) rfl (fun K hK => ?_) AllReadyH.nil
  go_simp
  go_at_call 30
  refine (MA.out _ (by assumption)).mono ?_
  rintro e w' ⟨rfl, hS⟩
  refine hK.out _ _ hS (fun hHeld => ?_)
  clear hK K
  (try simp only [Act.put, List.getElem_toArray, List.getElem_cons_zero, List.getElem_cons_succ, List.setIfInBounds_toArray, List.set_cons_zero, List.set_cons_succ])
  refine wpAnyH_take (i := 14) (oi := _) (v := .bool false) rfl (by kernel_rfl) (by kernel_rfl) (by kernel_rfl) (fun _ _ _ h => h) (Or.inl ⟨by rfl, ?_⟩) (by assumption) ?_
  · (intro wx hSw; (try dsimp only at hSw); go_simp; (try omega); (try simp [*]); (try omega))
  (try simp only [Act.put, List.getElem_toArray, List.getElem_cons_zero, List.getElem_cons_succ, List.setIfInBounds_toArray, List.set_cons_zero, List.set_cons_succ])
  refine wpAnyH_take (i := 15) (oi := _) (v := .bool false) rfl (by kernel_rfl) (by kernel_rfl) (by kernel_rfl) (fun _ _ _ h => h) (Or.inl ⟨by rfl, ?_⟩) (by assumption) ?_
  · (intro wx hSw; (try dsimp only at hSw); go_simp; (try omega); (try simp [*]); (try omega))
  (try simp only [Act.put, List.getElem_toArray, List.getElem_cons_zero, List.getElem_cons_succ, List.setIfInBounds_toArray, List.set_cons_zero, List.set_cons_succ])
  refine wpAnyH_take (i := 16) (oi := _) (v := .bool false) rfl (by kernel_rfl) (by kernel_rfl) (by kernel_rfl) (fun _ _ _ h => h) (Or.inl ⟨by rfl, ?_⟩) (by assumption) ?_
  · (intro wx hSw; (try dsimp only at hSw); go_simp; (try omega); (try simp [*]); (try omega))
  (try simp only [Act.put, List.getElem_toArray, List.getElem_cons_zero, List.getElem_cons_succ, List.setIfInBounds_toArray, List.set_cons_zero, List.set_cons_succ])
  refine wpAnyH_take (i := 17) (oi := _) (v := ?_) rfl (by kernel_rfl) (by kernel_rfl) (by kernel_rfl) (fun _ _ _ h => h) (Or.inl ⟨by rfl, ?_⟩) (by assumption) ?_
  rotate_left
  · (intro wx hSw; (try dsimp only at hSw); go_simp; (try with_reducible rfl))
  (try simp only [Act.put, List.getElem_toArray, List.getElem_cons_zero, List.getElem_cons_succ, List.setIfInBounds_toArray, List.set_cons_zero, List.set_cons_succ])
  refine wpAnyH_take (i := 18) (oi := _) (v := .bool false) rfl (by kernel_rfl) (by kernel_rfl) (by kernel_rfl) (fun _ _ _ h => h) (Or.inl ⟨by rfl, ?_⟩) (by assumption) ?_
  · (intro wx hSw; (try dsimp only at hSw); go_simp; (try omega); (try simp [*]); (try omega))
  (try simp only [Act.put, List.getElem_toArray, List.getElem_cons_zero, List.getElem_cons_succ, List.setIfInBounds_toArray, List.set_cons_zero, List.set_cons_succ])
  refine wpAnyH_take (i := 19) (oi := _) (v := .bool false) rfl (by kernel_rfl) (by kernel_rfl) (by kernel_rfl) (fun _ _ _ h => h) (Or.inl ⟨by rfl, ?_⟩) (by assumption) ?_
  · (intro wx hSw; (try dsimp only at hSw); go_simp; (try omega); (try simp [*]); (try omega))
  (try simp only [Act.put, List.getElem_toArray, List.getElem_cons_zero, List.getElem_cons_succ, List.setIfInBounds_toArray, List.set_cons_zero, List.set_cons_succ])
  refine wpAnyH_take (i := 20) (oi := _) (v := undef) rfl (by kernel_rfl) (by kernel_rfl) (by kernel_rfl) (fun _ _ _ h => h) (Or.inr ⟨by rfl, rfl⟩) (by assumption) ?_
  (try simp only [Act.put, List.getElem_toArray, List.getElem_cons_zero, List.getElem_cons_succ, List.setIfInBounds_toArray, List.set_cons_zero, List.set_cons_succ])
  refine wpAnyH_take (i := 21) (oi := _) (v := undef) rfl (by kernel_rfl) (by kernel_rfl) (by kernel_rfl) (fun _ _ _ h => h) (Or.inr ⟨by rfl, rfl⟩) (by assumption) ?_
  (try simp only [Act.put, List.getElem_toArray, List.getElem_cons_zero, List.getElem_cons_succ, List.setIfInBounds_toArray, List.set_cons_zero, List.set_cons_succ])
  refine wpAnyH_take (i := 22) (oi := _) (v := undef) rfl (by kernel_rfl) (by kernel_rfl) (by kernel_rfl) (fun _ _ _ h => h) (Or.inr ⟨by rfl, rfl⟩) (by assumption) ?_
  (try simp only [Act.put, List.getElem_toArray, List.getElem_cons_zero, List.getElem_cons_succ, List.setIfInBounds_toArray, List.set_cons_zero, List.set_cons_succ])
  refine wpAnyH_take (i := 23) (oi := _) (v := .bool false) rfl (by kernel_rfl) (by kernel_rfl) (by kernel_rfl) (fun _ _ _ h => h) (Or.inl ⟨by rfl, ?_⟩) (by assumption) ?_
  · (intro wx hSw; (try dsimp only at hSw); go_simp; (try omega); (try simp [*]); (try omega))
  (try simp only [Act.put, List.getElem_toArray, List.getElem_cons_zero, List.getElem_cons_succ, List.setIfInBounds_toArray, List.set_cons_zero, List.set_cons_succ])
  refine wpAnyH_take (i := 24) (oi := _) (v := .bool false) rfl (by kernel_rfl) (by kernel_rfl) (by kernel_rfl) (fun _ _ _ h => h) (Or.inl ⟨by rfl, ?_⟩) (by assumption) ?_
  · (intro wx hSw; (try dsimp only at hSw); go_simp; (try omega); (try simp [*]); (try omega))
  (try simp only [Act.put, List.getElem_toArray, List.getElem_cons_zero, List.getElem_cons_succ, List.setIfInBounds_toArray, List.set_cons_zero, List.set_cons_succ])
  refine wpAnyH_take (i := 25) (oi := _) (v := .bool false) rfl (by kernel_rfl) (by kernel_rfl) (by kernel_rfl) (fun _ _ _ h => h) (Or.inl ⟨by rfl, ?_⟩) (by assumption) ?_
  · (intro wx hSw; (try dsimp only at hSw); go_simp; (try omega); (try simp [*]); (try omega))
  (try simp only [Act.put, List.getElem_toArray, List.getElem_cons_zero, List.getElem_cons_succ, List.setIfInBounds_toArray, List.set_cons_zero, List.set_cons_succ])
  refine wpAnyH_take (i := 26) (oi := _) (v := ?_) rfl (by kernel_rfl) (by kernel_rfl) (by kernel_rfl) (fun _ _ _ h => h) (Or.inl ⟨by rfl, ?_⟩) (by assumption) ?_
  rotate_left
  · (intro wx hSw; (try dsimp only at hSw); go_simp; (try with_reducible rfl))
  (try simp only [Act.put, List.getElem_toArray, List.getElem_cons_zero, List.getElem_cons_succ, List.setIfInBounds_toArray, List.set_cons_zero, List.set_cons_succ])
  refine wpAnyH_take (i := 27) (oi := _) (v := ?_) rfl (by kernel_rfl) (by kernel_rfl) (by kernel_rfl) (fun _ _ _ h => h) (Or.inl ⟨by rfl, ?_⟩) (by assumption) ?_
  rotate_left
  · (intro wx hSw; (try dsimp only at hSw); go_simp; (try with_reducible rfl))
  (try simp only [Act.put, List.getElem_toArray, List.getElem_cons_zero, List.getElem_cons_succ, List.setIfInBounds_toArray, List.set_cons_zero, List.set_cons_succ])
  refine wpAnyH_take (i := 28) (oi := _) (v := .bool true) rfl (by kernel_rfl) (by kernel_rfl) (by kernel_rfl) (fun _ _ _ h => h) (Or.inl ⟨by rfl, ?_⟩) (by assumption) ?_
  · (intro wx hSw; (try dsimp only at hSw); go_simp; (try omega); (try simp [*]); (try omega))
  (try simp only [Act.put, List.getElem_toArray, List.getElem_cons_zero, List.getElem_cons_succ, List.setIfInBounds_toArray, List.set_cons_zero, List.set_cons_succ])
  refine wpAnyH_take (i := 29) (oi := _) (v := .bool true) rfl (by kernel_rfl) (by kernel_rfl) (by kernel_rfl) (fun _ _ _ h => h) (Or.inl ⟨by rfl, ?_⟩) (by assumption) ?_
  · (intro wx hSw; (try dsimp only at hSw); go_simp; (try omega); (try simp [*]); (try omega))
  (try simp only [Act.put, List.getElem_toArray, List.getElem_cons_zero, List.getElem_cons_succ, List.setIfInBounds_toArray, List.set_cons_zero, List.set_cons_succ])
  refine wpAnyH_take (i := 30) (oi := _) (v := ?_) rfl (by kernel_rfl) (by kernel_rfl) (by kernel_rfl) (fun _ _ _ h => h) (Or.inl ⟨by rfl, ?_⟩) (by assumption) ?_
  rotate_left
  · (intro wx hSw; (try dsimp only at hSw); go_simp; (try with_reducible rfl))
  (try simp only [Act.put, List.getElem_toArray, List.getElem_cons_zero, List.getElem_cons_succ, List.setIfInBounds_toArray, List.set_cons_zero, List.set_cons_succ])
  refine wpAnyH_take (i := 31) (oi := _) (v := ?_) rfl (by kernel_rfl) (by kernel_rfl) (by kernel_rfl) (fun _ _ _ h => h) (Or.inl ⟨by rfl, ?_⟩) (by assumption) ?_
  rotate_left
  · (intro wx hSw; (try dsimp only at hSw); go_simp; (try with_reducible rfl))
  (try simp only [Act.put, List.getElem_toArray, List.getElem_cons_zero, List.getElem_cons_succ, List.setIfInBounds_toArray, List.set_cons_zero, List.set_cons_succ])
  refine wpAnyH_take (i := 32) (oi := _) (v := ?_) rfl (by kernel_rfl) (by kernel_rfl) (by kernel_rfl) (fun _ _ _ h => h) (Or.inl ⟨by rfl, ?_⟩) (by assumption) ?_
  rotate_left
  · (intro wx hSw; (try dsimp only at hSw); go_simp; (try with_reducible rfl))
  (try simp only [Act.put, List.getElem_toArray, List.getElem_cons_zero, List.getElem_cons_succ, List.setIfInBounds_toArray, List.set_cons_zero, List.set_cons_succ])
  refine wpAnyH_take (i := 33) (oi := _) (v := ?_) rfl (by kernel_rfl) (by kernel_rfl) (by kernel_rfl) (fun _ _ _ h => h) (Or.inl ⟨by rfl, ?_⟩) (by assumption) ?_
  rotate_left
  · (intro wx hSw; (try dsimp only at hSw); go_simp; (try with_reducible rfl))
  (try simp only [Act.put, List.getElem_toArray, List.getElem_cons_zero, List.getElem_cons_succ, List.setIfInBounds_toArray, List.set_cons_zero, List.set_cons_succ])
  refine wpAnyH_take (i := 34) (oi := _) (v := ?_) rfl (by kernel_rfl) (by kernel_rfl) (by kernel_rfl) (fun _ _ _ h => h) (Or.inl ⟨by rfl, ?_⟩) (by assumption) ?_
  rotate_left
  · (intro wx hSw; (try dsimp only at hSw); go_simp; (try with_reducible rfl))
  (try simp only [Act.put, List.getElem_toArray, List.getElem_cons_zero, List.getElem_cons_succ, List.setIfInBounds_toArray, List.set_cons_zero, List.set_cons_succ])
  refine wpAnyH_take (i := 35) (oi := _) (v := ?_) rfl (by kernel_rfl) (by kernel_rfl) (by kernel_rfl) (fun _ _ _ h => h) (Or.inl ⟨by rfl, ?_⟩) (by assumption) ?_
  rotate_left
  · (intro wx hSw; (try dsimp only at hSw); go_simp; (try with_reducible rfl))
  (try simp only [Act.put, List.getElem_toArray, List.getElem_cons_zero, List.getElem_cons_succ, List.setIfInBounds_toArray, List.set_cons_zero, List.set_cons_succ])
  refine wpAnyH_take (i := 36) (oi := _) (v := .bool false) rfl (by kernel_rfl) (by kernel_rfl) (by kernel_rfl) (fun _ _ _ h => h) (Or.inl ⟨by rfl, ?_⟩) (by assumption) ?_
  · (intro wx hSw; (try dsimp only at hSw); go_simp; (try omega); (try simp [*]); (try omega))
  (try simp only [Act.put, List.getElem_toArray, List.getElem_cons_zero, List.getElem_cons_succ, List.setIfInBounds_toArray, List.set_cons_zero, List.set_cons_succ])
  refine wpAnyH_take (i := 37) (oi := _) (v := .bool false) rfl (by kernel_rfl) (by kernel_rfl) (by kernel_rfl) (fun _ _ _ h => h) (Or.inl ⟨by rfl, ?_⟩) (by assumption) ?_
  · (intro wx hSw; (try dsimp only at hSw); go_simp; (try omega); (try simp [*]); (try omega))
  (try simp only [Act.put, List.getElem_toArray, List.getElem_cons_zero, List.getElem_cons_succ, List.setIfInBounds_toArray, List.set_cons_zero, List.set_cons_succ])
  refine wpAnyH_take (i := 38) (oi := _) (v := .bool false) rfl (by kernel_rfl) (by kernel_rfl) (by kernel_rfl) (fun _ _ _ h => h) (Or.inl ⟨by rfl, ?_⟩) (by assumption) ?_
  · (intro wx hSw; (try dsimp only at hSw); go_simp; (try omega); (try simp [*]); (try omega))
  (try simp only [Act.put, List.getElem_toArray, List.getElem_cons_zero, List.getElem_cons_succ, List.setIfInBounds_toArray, List.set_cons_zero, List.set_cons_succ])
  refine wpAnyH_done (by kernel_rfl) ?_ _
  obtain ⟨b0, b1, b2, b3, c3, q0⟩ := hS
  clear KS CK MA SN c3 HA
  obtain ⟨f0, f1, f2, f3⟩ := box_free q0
  have qs : Q w (w'.setCell ⟨w.heap.size, 0, none⟩ (.int .u64 0)) := (qa.trans q0).set (Nat.le_refl _) _
  have BX := Lib.hid (box_turned q0)
  go_wp2_with fail
  refine (WO.out _ qs).mono ?_
  rintro e w4 ⟨v4, rfl, o4, q4⟩
  obtain ⟨d0, d1, d2, d3⟩ := BX.out _ q4
  have qw := qs.trans q4
  have T4 := Lib.hid (o4.vers OKW.out)
  obtain ⟨A4, c4, rfl⟩ := own_len o4
  clear o4 b0 b1 b2 b3 f0 f1 f2 f3
  obtain ⟨K, hk⟩ : ∃ K, (woV l 0).length = K := ⟨_, rfl⟩
  rw [hk] at h20 T4 ⊢
  have h20' : (20 : Int) ≤ (K : Int) := by omega
  clear hk
  go_wp2
  go_ret2
  exact ⟨_, rfl, OwnV.nil _ _, qw⟩
set_option maxHeartbeats 3000000 in
set_option maxRecDepth 100000 in
theorem rput_on0_first (l : List Ver) (v : Value) (s : Int) (x : Ver) (w : World) (hR : okP l) (hs : s = 0 ∨ s = 2) (hm : mayV x = true) (h0 : 0 < l.length) (htm : l[0].tm ≤ x.tm) (h20 : (woV l 0).length < 20) (hl : l.length ≤ 900) (hx : okV x) (ht : Vers w w.heap.size v l) :
    Calls Try.prog 13 #[v, .int .i64 s, ver x] w fun e w' => ∃ v', e = .returned (.tuple #[v', .int .i64 0]) ∧ OwnV w.heap.size w' v' (zeroId x :: woV l 0) ∧ Q w w' := by
  have OKW := Lib.hid (wo_ok (id := 0) ht.okAll)
  have WO : Hid (∀ b, Q w b → Calls Try.prog 31 #[v, .int .u64 0] b fun e w' => ∃ v', e = .returned v' ∧ OwnV b.heap.size w' v' (woV l 0) ∧ Q b w') := Lib.hid (fun b q => rwithout_any l v 0 b (by omega) (ht.on q))
  have T := Lib.hid ht
  have qa : Q w (w.alloc (.cells #[.int .u64 (x.id : Nat), .string x.data, .bool x.mark, .int .i64 x.tm] 25)) := (Q.refl w).alloc _
  obtain ⟨A, cc, rfl, -, -, -, hcs⟩ := ht
  obtain ⟨a, rfl, ha, hat⟩ := hcs 0 h0
  rw [Nat.zero_mul, show a.add 0 = a by cases a; simp [Addr.add]] at hat
  obtain ⟨y, hy⟩ : ∃ y, y = l[0].tm := ⟨_, rfl⟩
  have HA : Hid (∀ b, Q w b → b.cell? ⟨a.block, a.off + 3, none⟩ = some (.int .i64 y)) := Lib.hid (fun b q => by rw [hy]; exact (hat.keep ha fun _ hp => q.cell hp).2.2.2)
  have hlp : (0 : Int) < (l.length : Int) := by omega
  rw [← hy] at htm
  clear hcs hat hy
  have KS : Hid (∀ b, Q (w.alloc (.cells #[.int .u64 (x.id : Nat), .string x.data, .bool x.mark, .int .i64 x.tm] 25)) b → (fun w' => w'.cell? ⟨w.heap.size, 0, none⟩ = some (.int .u64 (x.id : Nat)) ∧ w'.cell? ⟨w.heap.size, 1, none⟩ = some (.string x.data) ∧ w'.cell? ⟨w.heap.size, 2, none⟩ = some (.bool x.mark) ∧ w'.cell? ⟨w.heap.size, 3, none⟩ = some (.int .i64 x.tm) ∧ w'.cell? ⟨a.block, a.off + 3, none⟩ = some (.int .i64 y) ∧ Q (w.alloc (.cells #[.int .u64 (x.id : Nat), .string x.data, .bool x.mark, .int .i64 x.tm] 25)) w') b) := Lib.hid (by
    intro b q
    obtain ⟨b0, b1, b2, b3⟩ := box_of q
    exact ⟨b0, b1, b2, b3, HA.out b (qa.trans q), q⟩)
  have CK : Hid (∀ b, (fun w' => w'.cell? ⟨w.heap.size, 0, none⟩ = some (.int .u64 (x.id : Nat)) ∧ w'.cell? ⟨w.heap.size, 1, none⟩ = some (.string x.data) ∧ w'.cell? ⟨w.heap.size, 2, none⟩ = some (.bool x.mark) ∧ w'.cell? ⟨w.heap.size, 3, none⟩ = some (.int .i64 x.tm) ∧ w'.cell? ⟨a.block, a.off + 3, none⟩ = some (.int .i64 y) ∧ Q (w.alloc (.cells #[.int .u64 (x.id : Nat), .string x.data, .bool x.mark, .int .i64 x.tm] 25)) w') b → Calls Try.prog 18 #[.slice (some a) l.length cc] b fun e w' => e = .returned (.bool true) ∧ (fun w' => w'.cell? ⟨w.heap.size, 0, none⟩ = some (.int .u64 (x.id : Nat)) ∧ w'.cell? ⟨w.heap.size, 1, none⟩ = some (.string x.data) ∧ w'.cell? ⟨w.heap.size, 2, none⟩ = some (.bool x.mark) ∧ w'.cell? ⟨w.heap.size, 3, none⟩ = some (.int .i64 x.tm) ∧ w'.cell? ⟨a.block, a.off + 3, none⟩ = some (.int .i64 y) ∧ Q (w.alloc (.cells #[.int .u64 (x.id : Nat), .string x.data, .bool x.mark, .int .i64 x.tm] 25)) w') w') := Lib.hid (by
    intro b h
    refine (rcheck_any l _ b true (.inl ⟨rfl, hR⟩) (by omega) (T.out.on (qa.trans h.2.2.2.2.2))).mono ?_
    rintro e w' ⟨rfl, q'⟩
    exact ⟨rfl, KS.out _ (Q.trans h.2.2.2.2.2 q')⟩)
  have MA : Hid (∀ b, (fun w' => w'.cell? ⟨w.heap.size, 0, none⟩ = some (.int .u64 (x.id : Nat)) ∧ w'.cell? ⟨w.heap.size, 1, none⟩ = some (.string x.data) ∧ w'.cell? ⟨w.heap.size, 2, none⟩ = some (.bool x.mark) ∧ w'.cell? ⟨w.heap.size, 3, none⟩ = some (.int .i64 x.tm) ∧ w'.cell? ⟨a.block, a.off + 3, none⟩ = some (.int .i64 y) ∧ Q (w.alloc (.cells #[.int .u64 (x.id : Nat), .string x.data, .bool x.mark, .int .i64 x.tm] 25)) w') b → Calls Try.prog 30 #[.agg #[.int .u64 (x.id : Nat), .string x.data, .bool x.mark, .int .i64 x.tm]] b fun e w' => e = .returned (.bool true) ∧ (fun w' => w'.cell? ⟨w.heap.size, 0, none⟩ = some (.int .u64 (x.id : Nat)) ∧ w'.cell? ⟨w.heap.size, 1, none⟩ = some (.string x.data) ∧ w'.cell? ⟨w.heap.size, 2, none⟩ = some (.bool x.mark) ∧ w'.cell? ⟨w.heap.size, 3, none⟩ = some (.int .i64 x.tm) ∧ w'.cell? ⟨a.block, a.off + 3, none⟩ = some (.int .i64 y) ∧ Q (w.alloc (.cells #[.int .u64 (x.id : Nat), .string x.data, .bool x.mark, .int .i64 x.tm] 25)) w') w') := Lib.hid (by
    intro b h
    have M := rmay_any x b
    rw [hm, ver] at M
    refine M.mono ?_
    rintro e w' ⟨rfl, q'⟩
    exact ⟨rfl, KS.out _ (Q.trans h.2.2.2.2.2 q')⟩)
  have SN : Hid ((fun w' => w'.cell? ⟨w.heap.size, 0, none⟩ = some (.int .u64 (x.id : Nat)) ∧ w'.cell? ⟨w.heap.size, 1, none⟩ = some (.string x.data) ∧ w'.cell? ⟨w.heap.size, 2, none⟩ = some (.bool x.mark) ∧ w'.cell? ⟨w.heap.size, 3, none⟩ = some (.int .i64 x.tm) ∧ w'.cell? ⟨a.block, a.off + 3, none⟩ = some (.int .i64 y) ∧ Q (w.alloc (.cells #[.int .u64 (x.id : Nat), .string x.data, .bool x.mark, .int .i64 x.tm] 25)) w') (w.alloc (.cells #[.int .u64 (x.id : Nat), .string x.data, .bool x.mark, .int .i64 x.tm] 25)).drew) := Lib.hid (KS.out _ (Q.refl _).drew)
  have hs0 : ¬ s < 0 := by omega
  have hs2 : ¬ 2 < s := by omega
  have hs1 : ¬ s = 1 := by omega
  have hs1b : (s == 1) = false := by simpa using hs1
  have htm' : ¬ x.tm < y := by omega
  clear hR hm hs
  rw [ver]
  go_enter Try.func13, Try.ntmps13
  go_wp2_with fail
  refine wp_region_held_drew (S := (fun w' => w'.cell? ⟨w.heap.size, 0, none⟩ = some (.int .u64 (x.id : Nat)) ∧ w'.cell? ⟨w.heap.size, 1, none⟩ = some (.string x.data) ∧ w'.cell? ⟨w.heap.size, 2, none⟩ = some (.bool x.mark) ∧ w'.cell? ⟨w.heap.size, 3, none⟩ = some (.int .i64 x.tm) ∧ w'.cell? ⟨a.block, a.off + 3, none⟩ = some (.int .i64 y) ∧ Q (w.alloc (.cells #[.int .u64 (x.id : Nat), .string x.data, .bool x.mark, .int .i64 x.tm] 25)) w')) (by kernel_rfl) SN.out (fun hHeld => ?_)
  refine wpAnyH_take (i := 0) (oi := _) (v := ?_) rfl (by kernel_rfl) (by kernel_rfl) (by kernel_rfl) (fun _ _ _ h => h) (Or.inl ⟨by rfl, ?_⟩) (by assumption) ?_
  rotate_left
  · (intro wx hSw; (try dsimp only at hSw); go_simp; (try with_reducible rfl))
  (try simp only [Act.put, List.getElem_toArray, List.getElem_cons_zero, List.getElem_cons_succ, List.setIfInBounds_toArray, List.set_cons_zero, List.set_cons_succ])
  refine wpAnyH_ready (rs := [1]) (by kernel_rfl) (by simp) ?_
  refine AllReadyH.cons (o := _) rfl (fun K hK => ?_) AllReadyH.nil
  go_simp
  go_at_call 18
  refine (CK.out _ (by assumption)).mono ?_
  rintro e w' ⟨rfl, hS⟩
  refine hK.out _ _ hS (fun hHeld => ?_)
  clear hK K
  (try simp only [Act.put, List.getElem_toArray, List.getElem_cons_zero, List.getElem_cons_succ, List.setIfInBounds_toArray, List.set_cons_zero, List.set_cons_succ])
  refine wpAnyH_take (i := 2) (oi := _) (v := .bool false) rfl (by kernel_rfl) (by kernel_rfl) (by kernel_rfl) (fun _ _ _ h => h) (Or.inl ⟨by rfl, ?_⟩) (by assumption) ?_
  · (intro wx hSw; (try dsimp only at hSw); go_simp; (try omega); (try simp [*]); (try omega))
  (try simp only [Act.put, List.getElem_toArray, List.getElem_cons_zero, List.getElem_cons_succ, List.setIfInBounds_toArray, List.set_cons_zero, List.set_cons_succ])
  refine wpAnyH_take (i := 3) (oi := _) (v := .bool false) rfl (by kernel_rfl) (by kernel_rfl) (by kernel_rfl) (fun _ _ _ h => h) (Or.inl ⟨by rfl, ?_⟩) (by assumption) ?_
  · (intro wx hSw; (try dsimp only at hSw); go_simp; (try omega); (try simp [*]); (try omega))
  (try simp only [Act.put, List.getElem_toArray, List.getElem_cons_zero, List.getElem_cons_succ, List.setIfInBounds_toArray, List.set_cons_zero, List.set_cons_succ])
  refine wpAnyH_take (i := 4) (oi := _) (v := ?_) rfl (by kernel_rfl) (by kernel_rfl) (by kernel_rfl) (fun _ _ _ h => h) (Or.inl ⟨by rfl, ?_⟩) (by assumption) ?_
  rotate_left
  · (intro wx hSw; (try dsimp only at hSw); go_simp; (try with_reducible rfl))
  (try simp only [Act.put, List.getElem_toArray, List.getElem_cons_zero, List.getElem_cons_succ, List.setIfInBounds_toArray, List.set_cons_zero, List.set_cons_succ])
  refine wpAnyH_take (i := 5) (oi := _) (v := .bool false) rfl (by kernel_rfl) (by kernel_rfl) (by kernel_rfl) (fun _ _ _ h => h) (Or.inl ⟨by rfl, ?_⟩) (by assumption) ?_
  · (intro wx hSw; (try dsimp only at hSw); go_simp; (try omega); (try simp [*]); (try omega))
  (try simp only [Act.put, List.getElem_toArray, List.getElem_cons_zero, List.getElem_cons_succ, List.setIfInBounds_toArray, List.set_cons_zero, List.set_cons_succ])
  refine wpAnyH_take (i := 6) (oi := _) (v := .bool false) rfl (by kernel_rfl) (by kernel_rfl) (by kernel_rfl) (fun _ _ _ h => h) (Or.inl ⟨by rfl, ?_⟩) (by assumption) ?_
  · (intro wx hSw; (try dsimp only at hSw); go_simp; (try omega); (try simp [*]); (try omega))
  (try simp only [Act.put, List.getElem_toArray, List.getElem_cons_zero, List.getElem_cons_succ, List.setIfInBounds_toArray, List.set_cons_zero, List.set_cons_succ])
  refine wpAnyH_take (i := 7) (oi := _) (v := .bool false) rfl (by kernel_rfl) (by kernel_rfl) (by kernel_rfl) (fun _ _ _ h => h) (Or.inl ⟨by rfl, ?_⟩) (by assumption) ?_
  · (intro wx hSw; (try dsimp only at hSw); go_simp; (try omega); (try simp [*]); (try omega))
  (try simp only [Act.put, List.getElem_toArray, List.getElem_cons_zero, List.getElem_cons_succ, List.setIfInBounds_toArray, List.set_cons_zero, List.set_cons_succ])
  refine wpAnyH_take (i := 8) (oi := _) (v := ?_) rfl (by kernel_rfl) (by kernel_rfl) (by kernel_rfl) (fun _ _ _ h => h) (Or.inl ⟨by rfl, ?_⟩) (by assumption) ?_
  rotate_left
  · (intro wx hSw; (try dsimp only at hSw); go_simp; (try with_reducible rfl))
  (try simp only [Act.put, List.getElem_toArray, List.getElem_cons_zero, List.getElem_cons_succ, List.setIfInBounds_toArray, List.set_cons_zero, List.set_cons_succ])
  refine wpAnyH_take (i := 9) (oi := _) (v := .bool false) rfl (by kernel_rfl) (by kernel_rfl) (by kernel_rfl) (fun _ _ _ h => h) (Or.inl ⟨by rfl, ?_⟩) (by assumption) ?_
  · (intro wx hSw; (try dsimp only at hSw); go_simp; (try omega); (try simp [*]); (try omega))
  (try simp only [Act.put, List.getElem_toArray, List.getElem_cons_zero, List.getElem_cons_succ, List.setIfInBounds_toArray, List.set_cons_zero, List.set_cons_succ])
  refine wpAnyH_take (i := 10) (oi := _) (v := .bool false) rfl (by kernel_rfl) (by kernel_rfl) (by kernel_rfl) (fun _ _ _ h => h) (Or.inl ⟨by rfl, ?_⟩) (by assumption) ?_
  · (intro wx hSw; (try dsimp only at hSw); go_simp; (try omega); (try simp [*]); (try omega))
  (try simp only [Act.put, List.getElem_toArray, List.getElem_cons_zero, List.getElem_cons_succ, List.setIfInBounds_toArray, List.set_cons_zero, List.set_cons_succ])
  refine wpAnyH_take (i := 11) (oi := _) (v := .bool false) rfl (by kernel_rfl) (by kernel_rfl) (by kernel_rfl) (fun _ _ _ h => h) (Or.inl ⟨by rfl, ?_⟩) (by assumption) ?_
  · (intro wx hSw; (try dsimp only at hSw); go_simp; (try omega); (try simp [*]); (try omega))
  (try simp only [Act.put, List.getElem_toArray, List.getElem_cons_zero, List.getElem_cons_succ, List.setIfInBounds_toArray, List.set_cons_zero, List.set_cons_succ])
  refine wpAnyH_take (i := 12) (oi := _) (v := ?_) rfl (by kernel_rfl) (by kernel_rfl) (by kernel_rfl) (fun _ _ _ h => h) (Or.inl ⟨by rfl, ?_⟩) (by assumption) ?_
  rotate_left
  · (intro wx hSw; (try dsimp only at hSw); go_simp; (try with_reducible rfl))
  (try simp only [Act.put, List.getElem_toArray, List.getElem_cons_zero, List.getElem_cons_succ, List.setIfInBounds_toArray, List.set_cons_zero, List.set_cons_succ])
  refine wpAnyH_ready (rs := [13]) (by kernel_rfl) (by simp) ?_
  refine AllReadyH.cons (o := _) rfl (fun K hK => ?_) AllReadyH.nil
  go_simp
  go_at_call 30
  refine (MA.out _ (by assumption)).mono ?_
  rintro e w' ⟨rfl, hS⟩
  refine hK.out _ _ hS (fun hHeld => ?_)
  clear hK K
  (try simp only [Act.put, List.getElem_toArray, List.getElem_cons_zero, List.getElem_cons_succ, List.setIfInBounds_toArray, List.set_cons_zero, List.set_cons_succ])
  refine wpAnyH_take (i := 14) (oi := _) (v := .bool false) rfl (by kernel_rfl) (by kernel_rfl) (by kernel_rfl) (fun _ _ _ h => h) (Or.inl ⟨by rfl, ?_⟩) (by assumption) ?_
  · (intro wx hSw; (try dsimp only at hSw); go_simp; (try omega); (try simp [*]); (try omega))
  (try simp only [Act.put, List.getElem_toArray, List.getElem_cons_zero, List.getElem_cons_succ, List.setIfInBounds_toArray, List.set_cons_zero, List.set_cons_succ])
  refine wpAnyH_take (i := 15) (oi := _) (v := .bool false) rfl (by kernel_rfl) (by kernel_rfl) (by kernel_rfl) (fun _ _ _ h => h) (Or.inl ⟨by rfl, ?_⟩) (by assumption) ?_
  · (intro wx hSw; (try dsimp only at hSw); go_simp; (try omega); (try simp [*]); (try omega))
  (try simp only [Act.put, List.getElem_toArray, List.getElem_cons_zero, List.getElem_cons_succ, List.setIfInBounds_toArray, List.set_cons_zero, List.set_cons_succ])
  refine wpAnyH_take (i := 16) (oi := _) (v := .bool false) rfl (by kernel_rfl) (by kernel_rfl) (by kernel_rfl) (fun _ _ _ h => h) (Or.inl ⟨by rfl, ?_⟩) (by assumption) ?_
  · (intro wx hSw; (try dsimp only at hSw); go_simp; (try omega); (try simp [*]); (try omega))
  (try simp only [Act.put, List.getElem_toArray, List.getElem_cons_zero, List.getElem_cons_succ, List.setIfInBounds_toArray, List.set_cons_zero, List.set_cons_succ])
  refine wpAnyH_take (i := 17) (oi := _) (v := ?_) rfl (by kernel_rfl) (by kernel_rfl) (by kernel_rfl) (fun _ _ _ h => h) (Or.inl ⟨by rfl, ?_⟩) (by assumption) ?_
  rotate_left
  · (intro wx hSw; (try dsimp only at hSw); go_simp; (try with_reducible rfl))
  (try simp only [Act.put, List.getElem_toArray, List.getElem_cons_zero, List.getElem_cons_succ, List.setIfInBounds_toArray, List.set_cons_zero, List.set_cons_succ])
  refine wpAnyH_take (i := 18) (oi := _) (v := .bool false) rfl (by kernel_rfl) (by kernel_rfl) (by kernel_rfl) (fun _ _ _ h => h) (Or.inl ⟨by rfl, ?_⟩) (by assumption) ?_
  · (intro wx hSw; (try dsimp only at hSw); go_simp; (try omega); (try simp [*]); (try omega))
  (try simp only [Act.put, List.getElem_toArray, List.getElem_cons_zero, List.getElem_cons_succ, List.setIfInBounds_toArray, List.set_cons_zero, List.set_cons_succ])
  refine wpAnyH_take (i := 19) (oi := _) (v := .bool false) rfl (by kernel_rfl) (by kernel_rfl) (by kernel_rfl) (fun _ _ _ h => h) (Or.inl ⟨by rfl, ?_⟩) (by assumption) ?_
  · (intro wx hSw; (try dsimp only at hSw); go_simp; (try omega); (try simp [*]); (try omega))
  (try simp only [Act.put, List.getElem_toArray, List.getElem_cons_zero, List.getElem_cons_succ, List.setIfInBounds_toArray, List.set_cons_zero, List.set_cons_succ])
  refine wpAnyH_take (i := 20) (oi := _) (v := undef) rfl (by kernel_rfl) (by kernel_rfl) (by kernel_rfl) (fun _ _ _ h => h) (Or.inr ⟨by rfl, rfl⟩) (by assumption) ?_
  (try simp only [Act.put, List.getElem_toArray, List.getElem_cons_zero, List.getElem_cons_succ, List.setIfInBounds_toArray, List.set_cons_zero, List.set_cons_succ])
  refine wpAnyH_take (i := 21) (oi := _) (v := undef) rfl (by kernel_rfl) (by kernel_rfl) (by kernel_rfl) (fun _ _ _ h => h) (Or.inr ⟨by rfl, rfl⟩) (by assumption) ?_
  (try simp only [Act.put, List.getElem_toArray, List.getElem_cons_zero, List.getElem_cons_succ, List.setIfInBounds_toArray, List.set_cons_zero, List.set_cons_succ])
  refine wpAnyH_take (i := 22) (oi := _) (v := undef) rfl (by kernel_rfl) (by kernel_rfl) (by kernel_rfl) (fun _ _ _ h => h) (Or.inr ⟨by rfl, rfl⟩) (by assumption) ?_
  (try simp only [Act.put, List.getElem_toArray, List.getElem_cons_zero, List.getElem_cons_succ, List.setIfInBounds_toArray, List.set_cons_zero, List.set_cons_succ])
  refine wpAnyH_take (i := 23) (oi := _) (v := .bool false) rfl (by kernel_rfl) (by kernel_rfl) (by kernel_rfl) (fun _ _ _ h => h) (Or.inl ⟨by rfl, ?_⟩) (by assumption) ?_
  · (intro wx hSw; (try dsimp only at hSw); go_simp; (try omega); (try simp [*]); (try omega))
  (try simp only [Act.put, List.getElem_toArray, List.getElem_cons_zero, List.getElem_cons_succ, List.setIfInBounds_toArray, List.set_cons_zero, List.set_cons_succ])
  refine wpAnyH_take (i := 24) (oi := _) (v := .bool false) rfl (by kernel_rfl) (by kernel_rfl) (by kernel_rfl) (fun _ _ _ h => h) (Or.inl ⟨by rfl, ?_⟩) (by assumption) ?_
  · (intro wx hSw; (try dsimp only at hSw); go_simp; (try omega); (try simp [*]); (try omega))
  (try simp only [Act.put, List.getElem_toArray, List.getElem_cons_zero, List.getElem_cons_succ, List.setIfInBounds_toArray, List.set_cons_zero, List.set_cons_succ])
  refine wpAnyH_take (i := 25) (oi := _) (v := .bool false) rfl (by kernel_rfl) (by kernel_rfl) (by kernel_rfl) (fun _ _ _ h => h) (Or.inl ⟨by rfl, ?_⟩) (by assumption) ?_
  · (intro wx hSw; (try dsimp only at hSw); go_simp; (try omega); (try simp [*]); (try omega))
  (try simp only [Act.put, List.getElem_toArray, List.getElem_cons_zero, List.getElem_cons_succ, List.setIfInBounds_toArray, List.set_cons_zero, List.set_cons_succ])
  refine wpAnyH_take (i := 26) (oi := _) (v := ?_) rfl (by kernel_rfl) (by kernel_rfl) (by kernel_rfl) (fun _ _ _ h => h) (Or.inl ⟨by rfl, ?_⟩) (by assumption) ?_
  rotate_left
  · (intro wx hSw; (try dsimp only at hSw); go_simp; (try with_reducible rfl))
  (try simp only [Act.put, List.getElem_toArray, List.getElem_cons_zero, List.getElem_cons_succ, List.setIfInBounds_toArray, List.set_cons_zero, List.set_cons_succ])
  refine wpAnyH_take (i := 27) (oi := _) (v := ?_) rfl (by kernel_rfl) (by kernel_rfl) (by kernel_rfl) (fun _ _ _ h => h) (Or.inl ⟨by rfl, ?_⟩) (by assumption) ?_
  rotate_left
  · (intro wx hSw; (try dsimp only at hSw); go_simp; (try with_reducible rfl))
  (try simp only [Act.put, List.getElem_toArray, List.getElem_cons_zero, List.getElem_cons_succ, List.setIfInBounds_toArray, List.set_cons_zero, List.set_cons_succ])
  refine wpAnyH_take (i := 28) (oi := _) (v := .bool true) rfl (by kernel_rfl) (by kernel_rfl) (by kernel_rfl) (fun _ _ _ h => h) (Or.inl ⟨by rfl, ?_⟩) (by assumption) ?_
  · (intro wx hSw; (try dsimp only at hSw); go_simp; (try omega); (try simp [*]); (try omega))
  (try simp only [Act.put, List.getElem_toArray, List.getElem_cons_zero, List.getElem_cons_succ, List.setIfInBounds_toArray, List.set_cons_zero, List.set_cons_succ])
  refine wpAnyH_take (i := 29) (oi := _) (v := .bool true) rfl (by kernel_rfl) (by kernel_rfl) (by kernel_rfl) (fun _ _ _ h => h) (Or.inl ⟨by rfl, ?_⟩) (by assumption) ?_
  · (intro wx hSw; (try dsimp only at hSw); go_simp; (try omega); (try simp [*]); (try omega))
  (try simp only [Act.put, List.getElem_toArray, List.getElem_cons_zero, List.getElem_cons_succ, List.setIfInBounds_toArray, List.set_cons_zero, List.set_cons_succ])
  refine wpAnyH_take (i := 30) (oi := _) (v := ?_) rfl (by kernel_rfl) (by kernel_rfl) (by kernel_rfl) (fun _ _ _ h => h) (Or.inl ⟨by rfl, ?_⟩) (by assumption) ?_
  rotate_left
  · (intro wx hSw; (try dsimp only at hSw); go_simp; (try with_reducible rfl))
  (try simp only [Act.put, List.getElem_toArray, List.getElem_cons_zero, List.getElem_cons_succ, List.setIfInBounds_toArray, List.set_cons_zero, List.set_cons_succ])
  refine wpAnyH_take (i := 31) (oi := _) (v := ?_) rfl (by kernel_rfl) (by kernel_rfl) (by kernel_rfl) (fun _ _ _ h => h) (Or.inl ⟨by rfl, ?_⟩) (by assumption) ?_
  rotate_left
  · (intro wx hSw; (try dsimp only at hSw); go_simp; (try with_reducible rfl))
  (try simp only [Act.put, List.getElem_toArray, List.getElem_cons_zero, List.getElem_cons_succ, List.setIfInBounds_toArray, List.set_cons_zero, List.set_cons_succ])
  refine wpAnyH_take (i := 32) (oi := _) (v := ?_) rfl (by kernel_rfl) (by kernel_rfl) (by kernel_rfl) (fun _ _ _ h => h) (Or.inl ⟨by rfl, ?_⟩) (by assumption) ?_
  rotate_left
  · (intro wx hSw; (try dsimp only at hSw); go_simp; (try with_reducible rfl))
  (try simp only [Act.put, List.getElem_toArray, List.getElem_cons_zero, List.getElem_cons_succ, List.setIfInBounds_toArray, List.set_cons_zero, List.set_cons_succ])
  refine wpAnyH_take (i := 33) (oi := _) (v := ?_) rfl (by kernel_rfl) (by kernel_rfl) (by kernel_rfl) (fun _ _ _ h => h) (Or.inl ⟨by rfl, ?_⟩) (by assumption) ?_
  rotate_left
  · (intro wx hSw; (try dsimp only at hSw); go_simp; (try with_reducible rfl))
  (try simp only [Act.put, List.getElem_toArray, List.getElem_cons_zero, List.getElem_cons_succ, List.setIfInBounds_toArray, List.set_cons_zero, List.set_cons_succ])
  refine wpAnyH_take (i := 34) (oi := _) (v := ?_) rfl (by kernel_rfl) (by kernel_rfl) (by kernel_rfl) (fun _ _ _ h => h) (Or.inl ⟨by rfl, ?_⟩) (by assumption) ?_
  rotate_left
  · (intro wx hSw; (try dsimp only at hSw); go_simp; (try with_reducible rfl))
  (try simp only [Act.put, List.getElem_toArray, List.getElem_cons_zero, List.getElem_cons_succ, List.setIfInBounds_toArray, List.set_cons_zero, List.set_cons_succ])
  refine wpAnyH_take (i := 35) (oi := _) (v := ?_) rfl (by kernel_rfl) (by kernel_rfl) (by kernel_rfl) (fun _ _ _ h => h) (Or.inl ⟨by rfl, ?_⟩) (by assumption) ?_
  rotate_left
  · (intro wx hSw; (try dsimp only at hSw); go_simp; (try with_reducible rfl))
  (try simp only [Act.put, List.getElem_toArray, List.getElem_cons_zero, List.getElem_cons_succ, List.setIfInBounds_toArray, List.set_cons_zero, List.set_cons_succ])
  refine wpAnyH_take (i := 36) (oi := _) (v := .bool false) rfl (by kernel_rfl) (by kernel_rfl) (by kernel_rfl) (fun _ _ _ h => h) (Or.inl ⟨by rfl, ?_⟩) (by assumption) ?_
  · (intro wx hSw; (try dsimp only at hSw); go_simp; (try omega); (try simp [*]); (try omega))
  (try simp only [Act.put, List.getElem_toArray, List.getElem_cons_zero, List.getElem_cons_succ, List.setIfInBounds_toArray, List.set_cons_zero, List.set_cons_succ])
  refine wpAnyH_take (i := 37) (oi := _) (v := .bool false) rfl (by kernel_rfl) (by kernel_rfl) (by kernel_rfl) (fun _ _ _ h => h) (Or.inl ⟨by rfl, ?_⟩) (by assumption) ?_
  · (intro wx hSw; (try dsimp only at hSw); go_simp; (try omega); (try simp [*]); (try omega))
  (try simp only [Act.put, List.getElem_toArray, List.getElem_cons_zero, List.getElem_cons_succ, List.setIfInBounds_toArray, List.set_cons_zero, List.set_cons_succ])
  refine wpAnyH_take (i := 38) (oi := _) (v := .bool false) rfl (by kernel_rfl) (by kernel_rfl) (by kernel_rfl) (fun _ _ _ h => h) (Or.inl ⟨by rfl, ?_⟩) (by assumption) ?_
  · (intro wx hSw; (try dsimp only at hSw); go_simp; (try omega); (try simp [*]); (try omega))
  (try simp only [Act.put, List.getElem_toArray, List.getElem_cons_zero, List.getElem_cons_succ, List.setIfInBounds_toArray, List.set_cons_zero, List.set_cons_succ])
  refine wpAnyH_done (by kernel_rfl) ?_ _
  obtain ⟨b0, b1, b2, b3, c3, q0⟩ := hS
  clear KS CK MA SN c3 HA
  obtain ⟨f0, f1, f2, f3⟩ := box_free q0
  have qs : Q w (w'.setCell ⟨w.heap.size, 0, none⟩ (.int .u64 0)) := (qa.trans q0).set (Nat.le_refl _) _
  have BX := Lib.hid (box_turned q0)
  go_wp2_with fail
  refine (WO.out _ qs).mono ?_
  rintro e w4 ⟨v4, rfl, o4, q4⟩
  obtain ⟨d0, d1, d2, d3⟩ := BX.out _ q4
  have qw := qs.trans q4
  have T4 := Lib.hid (o4.vers OKW.out)
  obtain ⟨A4, c4, rfl⟩ := own_len o4
  clear o4 b0 b1 b2 b3 f0 f1 f2 f3
  obtain ⟨K, hk⟩ : ∃ K, (woV l 0).length = K := ⟨_, rfl⟩
  rw [hk] at h20 T4 ⊢
  have h20' : ¬ (20 : Int) ≤ (K : Int) := by omega
  have OW := own_one w.heap.size w4 (zeroId x) qw.size
  have TB := T4.out.on ((Q.refl w4).alloc (.cells #[.int .u64 0, .string x.data, .bool x.mark, .int .i64 x.tm] 25))
  have hs : w.heap.size ≤ (w4.alloc (.cells #[.int .u64 0, .string x.data, .bool x.mark, .int .i64 x.tm] 25)).heap.size := Q.size (qw.alloc _)
  go_wp2_with (at_builtin; refine wpList_append_vers _ rfl _ _ 22 Try.underlying22 rfl w.heap.size _ _ [zeroId x] (woV l 0) rfl rfl OW TB hs ?ha ?_; (case ha => first | (simp; done) | (simp; omega) | omega); intro v2 w2 o2 g2; have b2 := ownV_grown (w0 := w) (qw.alloc _) hs OW g2; clear g2)
  go_ret2
  exact ⟨_, rfl, by simpa using o2, b2⟩
end Go.Proofs.Ytflfhigldkdlmaa
