/-
  Contract of the document's Check.
-/
import Derived.Test.YtjjlbbfhmpbneaaGreatHa
import Derived.Deep.RegionHeld3
namespace Go.Proofs.YtjjlbbfhmpbneaaGreat
set_option maxRecDepth 100000
open Go.ChangeShapes Go.WideShapes Go.ChangeAt Go.RowKit
set_option linter.unusedVariables false
set_option linter.unusedSimpArgs false
/-- Two versions whose IDs may not follow each other: x is ahead of y. -/
def pairBad (x y : Ver) : Bool := if y.id = 0 then decide (x.id = 0) else if x.id = 0 then false else decide (x.id ≤ y.id)
def pairsTo (l : List Ver) (i n : Nat) : Prop := ∀ k (hi : i < l.length) (hk : k < n) (hk' : k < l.length), pairBad l[k] l[i] = false
def tmOk (l : List Ver) (i : Nat) : Prop := ∀ j (hj : j + 1 = i) (h : i < l.length), ¬ (l[j].tm < l[i].tm)
def stepOk (l : List Ver) (i : Nat) : Prop := (∀ h : i < l.length, mayV l[i] = true) ∧ tmOk l i ∧ pairsTo l i i
def okP (l : List Ver) : Prop := l.length ≤ 20 ∧ ∀ i, stepOk l i
def chkP (l : List Ver) (R : Bool) : Prop := (R = true ∧ okP l) ∨ (R = false ∧ ¬ okP l)
theorem chkP_ex (l : List Ver) : ∃ R, chkP l R := by
  by_cases h : okP l
  · exact ⟨true, .inl ⟨rfl, h⟩⟩
  · exact ⟨false, .inr ⟨rfl, h⟩⟩
theorem chkP_no {l : List Ver} {R : Bool} (h : chkP l R) (k : ¬ okP l) : R = false := by
  rcases h with ⟨-, h⟩ | ⟨h, -⟩
  · exact absurd h k
  · exact h
theorem chkP_yes {l : List Ver} {R : Bool} (h : chkP l R) (k : okP l) : R = true := by
  rcases h with ⟨h, -⟩ | ⟨-, h⟩
  · exact h
  · exact absurd k h
theorem step_end {l : List Ver} {i : Nat} (h : l.length ≤ i) : stepOk l i := ⟨fun k => by omega, fun j hj k => by omega, fun k hi => by omega⟩
theorem chk_end {l : List Ver} {R : Bool} (h : chkP l R) (k : ∀ j, j < l.length → stepOk l j) : R = decide (l.length ≤ 20) := by
  have hall : ∀ i, stepOk l i := fun i => by
    by_cases hi : i < l.length
    · exact k i hi
    · exact step_end (by omega)
  by_cases h20 : l.length ≤ 20
  · rw [chkP_yes h ⟨h20, hall⟩]; simp [h20]
  · rw [chkP_no h (fun o => h20 o.1)]; simp [h20]
set_option maxHeartbeats 8000000 in
set_option maxRecDepth 100000 in
theorem rcheck_any (l : List Ver) (v : Value) (w : World) (R : Bool) (hR : chkP l R) (hl : l.length ≤ 1000) (ht : Vers w w.heap.size v l) :
    Calls Tryz.prog 102 #[v] w fun e w' => e = .returned (.bool R) ∧ Q w w' := by
  obtain ⟨A, c, rfl, -, -, -, hcells⟩ := ht
  have HC := Lib.hid hcells
  have HR := Lib.hid hR
  clear hcells hR
  go_enter Tryz.func102, Tryz.ntmps102
  go_wp2_with fail
  go_loopw [3] (fun I wr => ∃ i : Nat, i ≤ l.length ∧ I = .int .i64 i ∧ Q w wr ∧ Hid (∀ j, j < i → stepOk l j)) (fun I _ => l.length - (intOf I).toNat)
  case atStart => exact ⟨0, Nat.zero_le _, rfl, Q.refl _, Lib.hid (fun j h => by omega)⟩
  case round =>
    obtain ⟨i, hil, rfl, q0, HK⟩ := hrel
    by_cases hlt : i < l.length
    · obtain ⟨a, rfl, ha, hat⟩ := HC.out i hlt
      obtain ⟨x, hx⟩ : ∃ x, x = l[i] := ⟨_, rfl⟩
      rw [← hx] at hat
      have HX := Lib.hid hx
      clear hx
      have AT : ∀ b, Q w b → At b (a.add (i * 4)) x := fun b q => hat.keep (by rw [add_block]; exact ha) fun _ hp => q.cell hp
      have M0 : ∀ b, Calls Tryz.prog 126 #[ver x] b fun e w' => e = .returned (.bool (mayV x)) ∧ Q b w' := fun b => rmay_any x b
      cases hm : mayV x with
      | false =>
        have HV := Lib.hid (chkP_no HR.out (fun o => by have := (o.2 i).1 hlt; rw [← HX.out, hm] at this; simp at this))
        rw [hm] at M0
        have KS : Hid (∀ b, Q w b → (fun w' => w'.cell? (a.add (i * 4)) = some (.int .u64 (x.id : Nat)) ∧ w'.cell? ⟨(a.add (i * 4)).block, (a.add (i * 4)).off + 1, none⟩ = some (.string x.data) ∧ w'.cell? ⟨(a.add (i * 4)).block, (a.add (i * 4)).off + 2, none⟩ = some (.bool x.mark) ∧ w'.cell? ⟨(a.add (i * 4)).block, (a.add (i * 4)).off + 3, none⟩ = some (.int .i64 x.tm) ∧ Q w w') b) := Lib.hid (by
          intro b q
          obtain ⟨c0, c1, c2, c3⟩ := AT b q
          exact ⟨c0, c1, c2, c3, q⟩)
        have M1 : Hid (∀ b, (fun w' => w'.cell? (a.add (i * 4)) = some (.int .u64 (x.id : Nat)) ∧ w'.cell? ⟨(a.add (i * 4)).block, (a.add (i * 4)).off + 1, none⟩ = some (.string x.data) ∧ w'.cell? ⟨(a.add (i * 4)).block, (a.add (i * 4)).off + 2, none⟩ = some (.bool x.mark) ∧ w'.cell? ⟨(a.add (i * 4)).block, (a.add (i * 4)).off + 3, none⟩ = some (.int .i64 x.tm) ∧ Q w w') b → Calls Tryz.prog 126 #[.agg #[.int .u64 (x.id : Nat), .string x.data, .bool x.mark, .int .i64 x.tm]] b fun e w' => e = .returned (.bool false) ∧ (fun w' => w'.cell? (a.add (i * 4)) = some (.int .u64 (x.id : Nat)) ∧ w'.cell? ⟨(a.add (i * 4)).block, (a.add (i * 4)).off + 1, none⟩ = some (.string x.data) ∧ w'.cell? ⟨(a.add (i * 4)).block, (a.add (i * 4)).off + 2, none⟩ = some (.bool x.mark) ∧ w'.cell? ⟨(a.add (i * 4)).block, (a.add (i * 4)).off + 3, none⟩ = some (.int .i64 x.tm) ∧ Q w w') w') := Lib.hid (by
          intro b h
          refine (M0 b).mono ?_
          rintro e w' ⟨rfl, q'⟩
          exact ⟨rfl, KS.out _ (Q.trans h.2.2.2.2 q')⟩)
        have SN : Hid ((fun w' => w'.cell? (a.add (i * 4)) = some (.int .u64 (x.id : Nat)) ∧ w'.cell? ⟨(a.add (i * 4)).block, (a.add (i * 4)).off + 1, none⟩ = some (.string x.data) ∧ w'.cell? ⟨(a.add (i * 4)).block, (a.add (i * 4)).off + 2, none⟩ = some (.bool x.mark) ∧ w'.cell? ⟨(a.add (i * 4)).block, (a.add (i * 4)).off + 3, none⟩ = some (.int .i64 x.tm) ∧ Q w w') wr.drew) := Lib.hid (KS.out _ q0.drew)
        clear AT M0
        go_wp2_with fail
        refine wp_region_held_drew (S := (fun w' => w'.cell? (a.add (i * 4)) = some (.int .u64 (x.id : Nat)) ∧ w'.cell? ⟨(a.add (i * 4)).block, (a.add (i * 4)).off + 1, none⟩ = some (.string x.data) ∧ w'.cell? ⟨(a.add (i * 4)).block, (a.add (i * 4)).off + 2, none⟩ = some (.bool x.mark) ∧ w'.cell? ⟨(a.add (i * 4)).block, (a.add (i * 4)).off + 3, none⟩ = some (.int .i64 x.tm) ∧ Q w w')) (by kernel_rfl) SN.out (fun hHeld => ?_)
        refine wpAnyH_take (i := 0) (oi := _) (v := ?_) rfl (by kernel_rfl) (by kernel_rfl) (by kernel_rfl) (fun _ _ _ h => h) (Or.inl ⟨by rfl, ?_⟩) (by assumption) ?_
        rotate_left
        · (intro wx hSw; (try dsimp only at hSw); go_simp; (try with_reducible rfl))
        (try simp only [Act.put, PS])
        refine wpAnyH_take (i := 1) (oi := _) (v := ?_) rfl (by kernel_rfl) (by kernel_rfl) (by kernel_rfl) (fun _ _ _ h => h) (Or.inl ⟨by rfl, ?_⟩) (by assumption) ?_
        rotate_left
        · (intro wx hSw; (try dsimp only at hSw); go_simp; (try with_reducible rfl))
        (try simp only [Act.put, PS])
        refine wpAnyH_take (i := 2) (oi := _) (v := ?_) rfl (by kernel_rfl) (by kernel_rfl) (by kernel_rfl) (fun _ _ _ h => h) (Or.inl ⟨by rfl, ?_⟩) (by assumption) ?_
        rotate_left
        · (intro wx hSw; (try dsimp only at hSw); go_simp; (try with_reducible rfl))
        (try simp only [Act.put, PS])
        refine wpAnyH_take (i := 3) (oi := _) (v := ?_) rfl (by kernel_rfl) (by kernel_rfl) (by kernel_rfl) (fun _ _ _ h => h) (Or.inl ⟨by rfl, ?_⟩) (by assumption) ?_
        rotate_left
        · (intro wx hSw; (try dsimp only at hSw); go_simp; (try with_reducible rfl))
        (try simp only [Act.put, PS])
        refine wpAnyH_ready (rs := [4]) (by kernel_rfl) (by simp) ?_
        refine AllReadyH.cons (o := _) rfl (fun K hK => ?_) AllReadyH.nil
        go_simp
        go_at_call 126
        refine (M1.out _ (by assumption)).mono ?_
        rintro e w' ⟨rfl, hS⟩
        refine hK.out _ _ hS (fun hHeld => ?_)
        clear hK K
        (try simp only [Act.put, PS])
        refine wpAnyH_take (i := 5) (oi := _) (v := ?_) rfl (by kernel_rfl) (by kernel_rfl) (by kernel_rfl) (fun _ _ _ h => h) (Or.inl ⟨by rfl, ?_⟩) (by assumption) ?_
        rotate_left
        · (intro wx hSw; (try dsimp only at hSw); go_simp; (try with_reducible rfl))
        (try simp only [Act.put, PS])
        refine wpAnyH_take (i := 6) (oi := _) (v := ?_) rfl (by kernel_rfl) (by kernel_rfl) (by kernel_rfl) (fun _ _ _ h => h) (Or.inl ⟨by rfl, ?_⟩) (by assumption) ?_
        rotate_left
        · (intro wx hSw; (try dsimp only at hSw); go_simp; (try with_reducible rfl))
        (try simp only [Act.put, PS])
        refine wpAnyH_take (i := 7) (oi := _) (v := undef) rfl (by kernel_rfl) (by kernel_rfl) (by kernel_rfl) (fun _ _ _ h => h) (Or.inr ⟨by rfl, rfl⟩) (by assumption) ?_
        (try simp only [Act.put, PS])
        refine wpAnyH_take (i := 8) (oi := _) (v := undef) rfl (by kernel_rfl) (by kernel_rfl) (by kernel_rfl) (fun _ _ _ h => h) (Or.inr ⟨by rfl, rfl⟩) (by assumption) ?_
        (try simp only [Act.put, PS])
        refine wpAnyH_take (i := 9) (oi := _) (v := undef) rfl (by kernel_rfl) (by kernel_rfl) (by kernel_rfl) (fun _ _ _ h => h) (Or.inr ⟨by rfl, rfl⟩) (by assumption) ?_
        (try simp only [Act.put, PS])
        refine wpAnyH_take (i := 10) (oi := _) (v := undef) rfl (by kernel_rfl) (by kernel_rfl) (by kernel_rfl) (fun _ _ _ h => h) (Or.inr ⟨by rfl, rfl⟩) (by assumption) ?_
        (try simp only [Act.put, PS])
        refine wpAnyH_take (i := 11) (oi := _) (v := undef) rfl (by kernel_rfl) (by kernel_rfl) (by kernel_rfl) (fun _ _ _ h => h) (Or.inr ⟨by rfl, rfl⟩) (by assumption) ?_
        (try simp only [Act.put, PS])
        refine wpAnyH_take (i := 12) (oi := _) (v := undef) rfl (by kernel_rfl) (by kernel_rfl) (by kernel_rfl) (fun _ _ _ h => h) (Or.inr ⟨by rfl, rfl⟩) (by assumption) ?_
        (try simp only [Act.put, PS])
        refine wpAnyH_take (i := 13) (oi := _) (v := undef) rfl (by kernel_rfl) (by kernel_rfl) (by kernel_rfl) (fun _ _ _ h => h) (Or.inr ⟨by rfl, rfl⟩) (by assumption) ?_
        (try simp only [Act.put, PS])
        refine wpAnyH_take (i := 14) (oi := _) (v := undef) rfl (by kernel_rfl) (by kernel_rfl) (by kernel_rfl) (fun _ _ _ h => h) (Or.inr ⟨by rfl, rfl⟩) (by assumption) ?_
        (try simp only [Act.put, PS])
        refine wpAnyH_take (i := 15) (oi := _) (v := undef) rfl (by kernel_rfl) (by kernel_rfl) (by kernel_rfl) (fun _ _ _ h => h) (Or.inr ⟨by rfl, rfl⟩) (by assumption) ?_
        (try simp only [Act.put, PS])
        refine wpAnyH_take (i := 16) (oi := _) (v := undef) rfl (by kernel_rfl) (by kernel_rfl) (by kernel_rfl) (fun _ _ _ h => h) (Or.inr ⟨by rfl, rfl⟩) (by assumption) ?_
        (try simp only [Act.put, PS])
        refine wpAnyH_take (i := 17) (oi := _) (v := undef) rfl (by kernel_rfl) (by kernel_rfl) (by kernel_rfl) (fun _ _ _ h => h) (Or.inr ⟨by rfl, rfl⟩) (by assumption) ?_
        (try simp only [Act.put, PS])
        refine wpAnyH_take (i := 18) (oi := _) (v := undef) rfl (by kernel_rfl) (by kernel_rfl) (by kernel_rfl) (fun _ _ _ h => h) (Or.inr ⟨by rfl, rfl⟩) (by assumption) ?_
        (try simp only [Act.put, PS])
        refine wpAnyH_take (i := 19) (oi := _) (v := undef) rfl (by kernel_rfl) (by kernel_rfl) (by kernel_rfl) (fun _ _ _ h => h) (Or.inr ⟨by rfl, rfl⟩) (by assumption) ?_
        (try simp only [Act.put, PS])
        refine wpAnyH_take (i := 20) (oi := _) (v := undef) rfl (by kernel_rfl) (by kernel_rfl) (by kernel_rfl) (fun _ _ _ h => h) (Or.inr ⟨by rfl, rfl⟩) (by assumption) ?_
        (try simp only [Act.put, PS])
        refine wpAnyH_take (i := 21) (oi := _) (v := undef) rfl (by kernel_rfl) (by kernel_rfl) (by kernel_rfl) (fun _ _ _ h => h) (Or.inr ⟨by rfl, rfl⟩) (by assumption) ?_
        (try simp only [Act.put, PS])
        refine wpAnyH_take (i := 22) (oi := _) (v := undef) rfl (by kernel_rfl) (by kernel_rfl) (by kernel_rfl) (fun _ _ _ h => h) (Or.inr ⟨by rfl, rfl⟩) (by assumption) ?_
        (try simp only [Act.put, PS])
        refine wpAnyH_take (i := 23) (oi := _) (v := ?_) rfl (by kernel_rfl) (by kernel_rfl) (by kernel_rfl) (fun _ _ _ h => h) (Or.inl ⟨by rfl, ?_⟩) (by assumption) ?_
        rotate_left
        · (intro wx hSw; (try dsimp only at hSw); go_simp; (try with_reducible rfl))
        (try simp only [Act.put, PS])
        refine wpAnyH_done (by kernel_rfl) ?_ _
        have q := hS.2.2.2.2
        clear KS M1 SN
        go_wp2
        go_ret
        exact ⟨ret_bool (by rw [HV.out]), q⟩
      | true =>
        rw [hm] at M0
        have hm := Lib.hid hm
        have HAT := Lib.hid AT
        by_cases hi0 : i = 0
        · have TM : Hid (tmOk l i) := Lib.hid (fun j hj => by omega)
          have hi1 : ¬ (0 : Int) < (i : Int) := by omega
          have hi2 : decide ((0 : Int) < (i : Int)) = false := decide_eq_false hi1
          clear hi0
          have KS : Hid (∀ b, Q w b → (fun w' => w'.cell? (a.add (i * 4)) = some (.int .u64 (x.id : Nat)) ∧ w'.cell? ⟨(a.add (i * 4)).block, (a.add (i * 4)).off + 1, none⟩ = some (.string x.data) ∧ w'.cell? ⟨(a.add (i * 4)).block, (a.add (i * 4)).off + 2, none⟩ = some (.bool x.mark) ∧ w'.cell? ⟨(a.add (i * 4)).block, (a.add (i * 4)).off + 3, none⟩ = some (.int .i64 x.tm) ∧ Q w w') b) := Lib.hid (by
            intro b q
            obtain ⟨c0, c1, c2, c3⟩ := AT b q
            exact ⟨c0, c1, c2, c3, q⟩)
          have M1 : Hid (∀ b, (fun w' => w'.cell? (a.add (i * 4)) = some (.int .u64 (x.id : Nat)) ∧ w'.cell? ⟨(a.add (i * 4)).block, (a.add (i * 4)).off + 1, none⟩ = some (.string x.data) ∧ w'.cell? ⟨(a.add (i * 4)).block, (a.add (i * 4)).off + 2, none⟩ = some (.bool x.mark) ∧ w'.cell? ⟨(a.add (i * 4)).block, (a.add (i * 4)).off + 3, none⟩ = some (.int .i64 x.tm) ∧ Q w w') b → Calls Tryz.prog 126 #[.agg #[.int .u64 (x.id : Nat), .string x.data, .bool x.mark, .int .i64 x.tm]] b fun e w' => e = .returned (.bool true) ∧ (fun w' => w'.cell? (a.add (i * 4)) = some (.int .u64 (x.id : Nat)) ∧ w'.cell? ⟨(a.add (i * 4)).block, (a.add (i * 4)).off + 1, none⟩ = some (.string x.data) ∧ w'.cell? ⟨(a.add (i * 4)).block, (a.add (i * 4)).off + 2, none⟩ = some (.bool x.mark) ∧ w'.cell? ⟨(a.add (i * 4)).block, (a.add (i * 4)).off + 3, none⟩ = some (.int .i64 x.tm) ∧ Q w w') w') := Lib.hid (by
            intro b h
            refine (M0 b).mono ?_
            rintro e w' ⟨rfl, q'⟩
            exact ⟨rfl, KS.out _ (Q.trans h.2.2.2.2 q')⟩)
          have SN : Hid ((fun w' => w'.cell? (a.add (i * 4)) = some (.int .u64 (x.id : Nat)) ∧ w'.cell? ⟨(a.add (i * 4)).block, (a.add (i * 4)).off + 1, none⟩ = some (.string x.data) ∧ w'.cell? ⟨(a.add (i * 4)).block, (a.add (i * 4)).off + 2, none⟩ = some (.bool x.mark) ∧ w'.cell? ⟨(a.add (i * 4)).block, (a.add (i * 4)).off + 3, none⟩ = some (.int .i64 x.tm) ∧ Q w w') wr.drew) := Lib.hid (KS.out _ q0.drew)
          clear AT M0
          go_wp2_with fail
          refine wp_region_held_drew (S := (fun w' => w'.cell? (a.add (i * 4)) = some (.int .u64 (x.id : Nat)) ∧ w'.cell? ⟨(a.add (i * 4)).block, (a.add (i * 4)).off + 1, none⟩ = some (.string x.data) ∧ w'.cell? ⟨(a.add (i * 4)).block, (a.add (i * 4)).off + 2, none⟩ = some (.bool x.mark) ∧ w'.cell? ⟨(a.add (i * 4)).block, (a.add (i * 4)).off + 3, none⟩ = some (.int .i64 x.tm) ∧ Q w w')) (by kernel_rfl) SN.out (fun hHeld => ?_)
          refine wpAnyH_take (i := 0) (oi := _) (v := ?_) rfl (by kernel_rfl) (by kernel_rfl) (by kernel_rfl) (fun _ _ _ h => h) (Or.inl ⟨by rfl, ?_⟩) (by assumption) ?_
          rotate_left
          · (intro wx hSw; (try dsimp only at hSw); go_simp; (try with_reducible rfl))
          (try simp only [Act.put, PS])
          refine wpAnyH_take (i := 1) (oi := _) (v := ?_) rfl (by kernel_rfl) (by kernel_rfl) (by kernel_rfl) (fun _ _ _ h => h) (Or.inl ⟨by rfl, ?_⟩) (by assumption) ?_
          rotate_left
          · (intro wx hSw; (try dsimp only at hSw); go_simp; (try with_reducible rfl))
          (try simp only [Act.put, PS])
          refine wpAnyH_take (i := 2) (oi := _) (v := ?_) rfl (by kernel_rfl) (by kernel_rfl) (by kernel_rfl) (fun _ _ _ h => h) (Or.inl ⟨by rfl, ?_⟩) (by assumption) ?_
          rotate_left
          · (intro wx hSw; (try dsimp only at hSw); go_simp; (try with_reducible rfl))
          (try simp only [Act.put, PS])
          refine wpAnyH_take (i := 3) (oi := _) (v := ?_) rfl (by kernel_rfl) (by kernel_rfl) (by kernel_rfl) (fun _ _ _ h => h) (Or.inl ⟨by rfl, ?_⟩) (by assumption) ?_
          rotate_left
          · (intro wx hSw; (try dsimp only at hSw); go_simp; (try with_reducible rfl))
          (try simp only [Act.put, PS])
          refine wpAnyH_ready (rs := [4]) (by kernel_rfl) (by simp) ?_
          refine AllReadyH.cons (o := _) rfl (fun K hK => ?_) AllReadyH.nil
          go_simp
          go_at_call 126
          refine (M1.out _ (by assumption)).mono ?_
          rintro e w' ⟨rfl, hS⟩
          refine hK.out _ _ hS (fun hHeld => ?_)
          clear hK K
          (try simp only [Act.put, PS])
          refine wpAnyH_take (i := 5) (oi := _) (v := ?_) rfl (by kernel_rfl) (by kernel_rfl) (by kernel_rfl) (fun _ _ _ h => h) (Or.inl ⟨by rfl, ?_⟩) (by assumption) ?_
          rotate_left
          · (intro wx hSw; (try dsimp only at hSw); go_simp; (try with_reducible rfl))
          (try simp only [Act.put, PS])
          refine wpAnyH_take (i := 6) (oi := _) (v := ?_) rfl (by kernel_rfl) (by kernel_rfl) (by kernel_rfl) (fun _ _ _ h => h) (Or.inl ⟨by rfl, ?_⟩) (by assumption) ?_
          rotate_left
          · (intro wx hSw; (try dsimp only at hSw); go_simp; (try with_reducible rfl))
          (try simp only [Act.put, PS])
          refine wpAnyH_take (i := 7) (oi := _) (v := ?_) rfl (by kernel_rfl) (by kernel_rfl) (by kernel_rfl) (fun _ _ _ h => h) (Or.inl ⟨by rfl, ?_⟩) (by assumption) ?_
          rotate_left
          · (intro wx hSw; (try dsimp only at hSw); go_simp; (try with_reducible rfl))
          (try simp only [Act.put, PS])
          refine wpAnyH_take (i := 8) (oi := _) (v := .bool false) rfl (by kernel_rfl) (by kernel_rfl) (by kernel_rfl) (fun _ _ _ h => h) (Or.inl ⟨by rfl, ?_⟩) (by assumption) ?_
          · (intro wx hSw; (try dsimp only at hSw); go_simp; (try omega); (try simp [*]); (try omega))
          (try simp only [Act.put, PS])
          refine wpAnyH_take (i := 9) (oi := _) (v := ?_) rfl (by kernel_rfl) (by kernel_rfl) (by kernel_rfl) (fun _ _ _ h => h) (Or.inl ⟨by rfl, ?_⟩) (by assumption) ?_
          rotate_left
          · (intro wx hSw; (try dsimp only at hSw); go_simp; (try with_reducible rfl))
          (try simp only [Act.put, PS])
          refine wpAnyH_take (i := 10) (oi := _) (v := undef) rfl (by kernel_rfl) (by kernel_rfl) (by kernel_rfl) (fun _ _ _ h => h) (Or.inr ⟨by rfl, rfl⟩) (by assumption) ?_
          (try simp only [Act.put, PS])
          refine wpAnyH_take (i := 11) (oi := _) (v := undef) rfl (by kernel_rfl) (by kernel_rfl) (by kernel_rfl) (fun _ _ _ h => h) (Or.inr ⟨by rfl, rfl⟩) (by assumption) ?_
          (try simp only [Act.put, PS])
          refine wpAnyH_take (i := 12) (oi := _) (v := undef) rfl (by kernel_rfl) (by kernel_rfl) (by kernel_rfl) (fun _ _ _ h => h) (Or.inr ⟨by rfl, rfl⟩) (by assumption) ?_
          (try simp only [Act.put, PS])
          refine wpAnyH_take (i := 13) (oi := _) (v := undef) rfl (by kernel_rfl) (by kernel_rfl) (by kernel_rfl) (fun _ _ _ h => h) (Or.inr ⟨by rfl, rfl⟩) (by assumption) ?_
          (try simp only [Act.put, PS])
          refine wpAnyH_take (i := 14) (oi := _) (v := undef) rfl (by kernel_rfl) (by kernel_rfl) (by kernel_rfl) (fun _ _ _ h => h) (Or.inr ⟨by rfl, rfl⟩) (by assumption) ?_
          (try simp only [Act.put, PS])
          refine wpAnyH_take (i := 15) (oi := _) (v := undef) rfl (by kernel_rfl) (by kernel_rfl) (by kernel_rfl) (fun _ _ _ h => h) (Or.inr ⟨by rfl, rfl⟩) (by assumption) ?_
          (try simp only [Act.put, PS])
          refine wpAnyH_take (i := 16) (oi := _) (v := undef) rfl (by kernel_rfl) (by kernel_rfl) (by kernel_rfl) (fun _ _ _ h => h) (Or.inr ⟨by rfl, rfl⟩) (by assumption) ?_
          (try simp only [Act.put, PS])
          refine wpAnyH_take (i := 17) (oi := _) (v := undef) rfl (by kernel_rfl) (by kernel_rfl) (by kernel_rfl) (fun _ _ _ h => h) (Or.inr ⟨by rfl, rfl⟩) (by assumption) ?_
          (try simp only [Act.put, PS])
          refine wpAnyH_take (i := 18) (oi := _) (v := undef) rfl (by kernel_rfl) (by kernel_rfl) (by kernel_rfl) (fun _ _ _ h => h) (Or.inr ⟨by rfl, rfl⟩) (by assumption) ?_
          (try simp only [Act.put, PS])
          refine wpAnyH_take (i := 19) (oi := _) (v := undef) rfl (by kernel_rfl) (by kernel_rfl) (by kernel_rfl) (fun _ _ _ h => h) (Or.inr ⟨by rfl, rfl⟩) (by assumption) ?_
          (try simp only [Act.put, PS])
          refine wpAnyH_take (i := 20) (oi := _) (v := undef) rfl (by kernel_rfl) (by kernel_rfl) (by kernel_rfl) (fun _ _ _ h => h) (Or.inr ⟨by rfl, rfl⟩) (by assumption) ?_
          (try simp only [Act.put, PS])
          refine wpAnyH_take (i := 21) (oi := _) (v := undef) rfl (by kernel_rfl) (by kernel_rfl) (by kernel_rfl) (fun _ _ _ h => h) (Or.inr ⟨by rfl, rfl⟩) (by assumption) ?_
          (try simp only [Act.put, PS])
          refine wpAnyH_take (i := 22) (oi := _) (v := ?_) rfl (by kernel_rfl) (by kernel_rfl) (by kernel_rfl) (fun _ _ _ h => h) (Or.inl ⟨by rfl, ?_⟩) (by assumption) ?_
          rotate_left
          · (intro wx hSw; (try dsimp only at hSw); go_simp; (try with_reducible rfl))
          (try simp only [Act.put, PS])
          refine wpAnyH_take (i := 23) (oi := _) (v := ?_) rfl (by kernel_rfl) (by kernel_rfl) (by kernel_rfl) (fun _ _ _ h => h) (Or.inl ⟨by rfl, ?_⟩) (by assumption) ?_
          rotate_left
          · (intro wx hSw; (try dsimp only at hSw); go_simp; (try with_reducible rfl))
          (try simp only [Act.put, PS])
          refine wpAnyH_done (by kernel_rfl) ?_ _
          have q := hS.2.2.2.2
          clear KS M1 SN
          go_wp2_with fail
          go_loopw [4] (fun K wr2 => ∃ k : Nat, k ≤ i ∧ K = .int .i64 k ∧ Q w wr2 ∧ Hid (pairsTo l i k)) (fun K _ => i - (intOf K).toNat)
          case atStart => exact ⟨0, Nat.zero_le _, rfl, q, Lib.hid (fun k hi hk => by omega)⟩
          case round =>
            obtain ⟨k, hk, rfl, q2, HP⟩ := hrel
            by_cases hlk : k < i
            · exact absurd hlk (by omega)
            · have HK2 : Hid (∀ j', j' < i + 1 → stepOk l j') := Lib.hid (fun j' hj' => by
                by_cases e : j' = i
                · rw [e]; exact ⟨fun h => by rw [← HX.out]; exact hm.out, TM.out, by have := HP.out; rwa [show k = i by omega] at this⟩
                · exact HK.out j' (by omega))
              go_wp2
              go_roundw
              case rel => exact ⟨i + 1, by omega, by go_num, q2, HK2⟩
              case measure => simp [intOf]; omega
        · obtain ⟨j, hj⟩ : ∃ j, j + 1 = i := ⟨i - 1, by omega⟩
          obtain ⟨a', ea, -, hbt⟩ := HC.out j (by omega)
          obtain rfl := Option.some.inj ea
          clear ea
          have hjl : j < l.length := by omega
          obtain ⟨y, hy⟩ : ∃ y, y = l[j]'hjl := ⟨_, rfl⟩
          rw [← hy] at hbt
          have BT : ∀ b, Q w b → At b (a.add (j * 4)) y := fun b q => hbt.keep (by rw [add_block]; exact ha) fun _ hp => q.cell hp
          have HY := Lib.hid hy
          have HJ := Lib.hid hj
          have hi1 : (0 : Int) < (i : Int) := by omega
          have hi2 : (i : Int) - 1 = (j : Int) := by omega
          have wj : IntKind.i64.wrap (j : Int) = (j : Int) := by rw [IntKind.wrap_i64]; omega
          have hj1 : (j : Int) < (l.length : Int) := by omega
          clear hy hbt hj hi0
          by_cases htm : y.tm < x.tm
          · have HV := Lib.hid (chkP_no HR.out (fun o => (o.2 i).2.1 j HJ.out hlt (by rw [← HX.out, ← HY.out]; exact htm)))
            have KS : Hid (∀ b, Q w b → (fun w' => w'.cell? (a.add (i * 4)) = some (.int .u64 (x.id : Nat)) ∧ w'.cell? ⟨(a.add (i * 4)).block, (a.add (i * 4)).off + 1, none⟩ = some (.string x.data) ∧ w'.cell? ⟨(a.add (i * 4)).block, (a.add (i * 4)).off + 2, none⟩ = some (.bool x.mark) ∧ w'.cell? ⟨(a.add (i * 4)).block, (a.add (i * 4)).off + 3, none⟩ = some (.int .i64 x.tm) ∧ w'.cell? ⟨(a.add (j * 4)).block, (a.add (j * 4)).off + 3, none⟩ = some (.int .i64 y.tm) ∧ Q w w') b) := Lib.hid (by
              intro b q
              obtain ⟨c0, c1, c2, c3⟩ := AT b q
              obtain ⟨-, -, -, d3⟩ := BT b q
              exact ⟨c0, c1, c2, c3, d3, q⟩)
            have M1 : Hid (∀ b, (fun w' => w'.cell? (a.add (i * 4)) = some (.int .u64 (x.id : Nat)) ∧ w'.cell? ⟨(a.add (i * 4)).block, (a.add (i * 4)).off + 1, none⟩ = some (.string x.data) ∧ w'.cell? ⟨(a.add (i * 4)).block, (a.add (i * 4)).off + 2, none⟩ = some (.bool x.mark) ∧ w'.cell? ⟨(a.add (i * 4)).block, (a.add (i * 4)).off + 3, none⟩ = some (.int .i64 x.tm) ∧ w'.cell? ⟨(a.add (j * 4)).block, (a.add (j * 4)).off + 3, none⟩ = some (.int .i64 y.tm) ∧ Q w w') b → Calls Tryz.prog 126 #[.agg #[.int .u64 (x.id : Nat), .string x.data, .bool x.mark, .int .i64 x.tm]] b fun e w' => e = .returned (.bool true) ∧ (fun w' => w'.cell? (a.add (i * 4)) = some (.int .u64 (x.id : Nat)) ∧ w'.cell? ⟨(a.add (i * 4)).block, (a.add (i * 4)).off + 1, none⟩ = some (.string x.data) ∧ w'.cell? ⟨(a.add (i * 4)).block, (a.add (i * 4)).off + 2, none⟩ = some (.bool x.mark) ∧ w'.cell? ⟨(a.add (i * 4)).block, (a.add (i * 4)).off + 3, none⟩ = some (.int .i64 x.tm) ∧ w'.cell? ⟨(a.add (j * 4)).block, (a.add (j * 4)).off + 3, none⟩ = some (.int .i64 y.tm) ∧ Q w w') w') := Lib.hid (by
              intro b h
              refine (M0 b).mono ?_
              rintro e w' ⟨rfl, q'⟩
              exact ⟨rfl, KS.out _ (Q.trans h.2.2.2.2.2 q')⟩)
            have SN : Hid ((fun w' => w'.cell? (a.add (i * 4)) = some (.int .u64 (x.id : Nat)) ∧ w'.cell? ⟨(a.add (i * 4)).block, (a.add (i * 4)).off + 1, none⟩ = some (.string x.data) ∧ w'.cell? ⟨(a.add (i * 4)).block, (a.add (i * 4)).off + 2, none⟩ = some (.bool x.mark) ∧ w'.cell? ⟨(a.add (i * 4)).block, (a.add (i * 4)).off + 3, none⟩ = some (.int .i64 x.tm) ∧ w'.cell? ⟨(a.add (j * 4)).block, (a.add (j * 4)).off + 3, none⟩ = some (.int .i64 y.tm) ∧ Q w w') wr.drew) := Lib.hid (KS.out _ q0.drew)
            clear AT M0 BT
            go_wp2_with fail
            refine wp_region_held_drew (S := (fun w' => w'.cell? (a.add (i * 4)) = some (.int .u64 (x.id : Nat)) ∧ w'.cell? ⟨(a.add (i * 4)).block, (a.add (i * 4)).off + 1, none⟩ = some (.string x.data) ∧ w'.cell? ⟨(a.add (i * 4)).block, (a.add (i * 4)).off + 2, none⟩ = some (.bool x.mark) ∧ w'.cell? ⟨(a.add (i * 4)).block, (a.add (i * 4)).off + 3, none⟩ = some (.int .i64 x.tm) ∧ w'.cell? ⟨(a.add (j * 4)).block, (a.add (j * 4)).off + 3, none⟩ = some (.int .i64 y.tm) ∧ Q w w')) (by kernel_rfl) SN.out (fun hHeld => ?_)
            refine wpAnyH_take (i := 0) (oi := _) (v := ?_) rfl (by kernel_rfl) (by kernel_rfl) (by kernel_rfl) (fun _ _ _ h => h) (Or.inl ⟨by rfl, ?_⟩) (by assumption) ?_
            rotate_left
            · (intro wx hSw; (try dsimp only at hSw); go_simp; (try with_reducible rfl))
            (try simp only [Act.put, PS])
            refine wpAnyH_take (i := 1) (oi := _) (v := ?_) rfl (by kernel_rfl) (by kernel_rfl) (by kernel_rfl) (fun _ _ _ h => h) (Or.inl ⟨by rfl, ?_⟩) (by assumption) ?_
            rotate_left
            · (intro wx hSw; (try dsimp only at hSw); go_simp; (try with_reducible rfl))
            (try simp only [Act.put, PS])
            refine wpAnyH_take (i := 2) (oi := _) (v := ?_) rfl (by kernel_rfl) (by kernel_rfl) (by kernel_rfl) (fun _ _ _ h => h) (Or.inl ⟨by rfl, ?_⟩) (by assumption) ?_
            rotate_left
            · (intro wx hSw; (try dsimp only at hSw); go_simp; (try with_reducible rfl))
            (try simp only [Act.put, PS])
            refine wpAnyH_take (i := 3) (oi := _) (v := ?_) rfl (by kernel_rfl) (by kernel_rfl) (by kernel_rfl) (fun _ _ _ h => h) (Or.inl ⟨by rfl, ?_⟩) (by assumption) ?_
            rotate_left
            · (intro wx hSw; (try dsimp only at hSw); go_simp; (try with_reducible rfl))
            (try simp only [Act.put, PS])
            refine wpAnyH_ready (rs := [4]) (by kernel_rfl) (by simp) ?_
            refine AllReadyH.cons (o := _) rfl (fun K hK => ?_) AllReadyH.nil
            go_simp
            go_at_call 126
            refine (M1.out _ (by assumption)).mono ?_
            rintro e w' ⟨rfl, hS⟩
            refine hK.out _ _ hS (fun hHeld => ?_)
            clear hK K
            (try simp only [Act.put, PS])
            refine wpAnyH_take (i := 5) (oi := _) (v := ?_) rfl (by kernel_rfl) (by kernel_rfl) (by kernel_rfl) (fun _ _ _ h => h) (Or.inl ⟨by rfl, ?_⟩) (by assumption) ?_
            rotate_left
            · (intro wx hSw; (try dsimp only at hSw); go_simp; (try with_reducible rfl))
            (try simp only [Act.put, PS])
            refine wpAnyH_take (i := 6) (oi := _) (v := ?_) rfl (by kernel_rfl) (by kernel_rfl) (by kernel_rfl) (fun _ _ _ h => h) (Or.inl ⟨by rfl, ?_⟩) (by assumption) ?_
            rotate_left
            · (intro wx hSw; (try dsimp only at hSw); go_simp; (try with_reducible rfl))
            (try simp only [Act.put, PS])
            refine wpAnyH_take (i := 7) (oi := _) (v := ?_) rfl (by kernel_rfl) (by kernel_rfl) (by kernel_rfl) (fun _ _ _ h => h) (Or.inl ⟨by rfl, ?_⟩) (by assumption) ?_
            rotate_left
            · (intro wx hSw; (try dsimp only at hSw); go_simp; (try with_reducible rfl))
            (try simp only [Act.put, PS])
            refine wpAnyH_take (i := 8) (oi := _) (v := .bool true) rfl (by kernel_rfl) (by kernel_rfl) (by kernel_rfl) (fun _ _ _ h => h) (Or.inl ⟨by rfl, ?_⟩) (by assumption) ?_
            · (intro wx hSw; (try dsimp only at hSw); go_simp; (try omega); (try simp [*]); (try omega))
            (try simp only [Act.put, PS])
            refine wpAnyH_take (i := 9) (oi := _) (v := ?_) rfl (by kernel_rfl) (by kernel_rfl) (by kernel_rfl) (fun _ _ _ h => h) (Or.inl ⟨by rfl, ?_⟩) (by assumption) ?_
            rotate_left
            · (intro wx hSw; (try dsimp only at hSw); go_simp; (try with_reducible rfl))
            (try simp only [Act.put, PS])
            refine wpAnyH_take (i := 10) (oi := _) (v := ?_) rfl (by kernel_rfl) (by kernel_rfl) (by kernel_rfl) (fun _ _ _ h => h) (Or.inl ⟨by rfl, ?_⟩) (by assumption) ?_
            rotate_left
            · (intro wx hSw; (try dsimp only at hSw); go_simp; (try with_reducible rfl))
            (try simp only [Act.put, PS])
            refine wpAnyH_take (i := 11) (oi := _) (v := ?_) rfl (by kernel_rfl) (by kernel_rfl) (by kernel_rfl) (fun _ _ _ h => h) (Or.inl ⟨by rfl, ?_⟩) (by assumption) ?_
            rotate_left
            · (intro wx hSw; (try dsimp only at hSw); go_simp; (try with_reducible rfl))
            (try simp only [Act.put, PS])
            refine wpAnyH_take (i := 12) (oi := _) (v := ?_) rfl (by kernel_rfl) (by kernel_rfl) (by kernel_rfl) (fun _ _ _ h => h) (Or.inl ⟨by rfl, ?_⟩) (by assumption) ?_
            rotate_left
            · (intro wx hSw; (try dsimp only at hSw); go_simp; (try with_reducible rfl))
            (try simp only [Act.put, PS])
            refine wpAnyH_take (i := 13) (oi := _) (v := ?_) rfl (by kernel_rfl) (by kernel_rfl) (by kernel_rfl) (fun _ _ _ h => h) (Or.inl ⟨by rfl, ?_⟩) (by assumption) ?_
            rotate_left
            · (intro wx hSw; (try dsimp only at hSw); go_simp; (try with_reducible rfl))
            (try simp only [Act.put, PS])
            refine wpAnyH_take (i := 14) (oi := _) (v := ?_) rfl (by kernel_rfl) (by kernel_rfl) (by kernel_rfl) (fun _ _ _ h => h) (Or.inl ⟨by rfl, ?_⟩) (by assumption) ?_
            rotate_left
            · (intro wx hSw; (try dsimp only at hSw); go_simp; (try with_reducible rfl))
            (try simp only [Act.put, PS])
            refine wpAnyH_take (i := 15) (oi := _) (v := ?_) rfl (by kernel_rfl) (by kernel_rfl) (by kernel_rfl) (fun _ _ _ h => h) (Or.inl ⟨by rfl, ?_⟩) (by assumption) ?_
            rotate_left
            · (intro wx hSw; (try dsimp only at hSw); go_simp; (try with_reducible rfl))
            (try simp only [Act.put, PS])
            refine wpAnyH_take (i := 16) (oi := _) (v := ?_) rfl (by kernel_rfl) (by kernel_rfl) (by kernel_rfl) (fun _ _ _ h => h) (Or.inl ⟨by rfl, ?_⟩) (by assumption) ?_
            rotate_left
            · (intro wx hSw; (try dsimp only at hSw); go_simp; (try with_reducible rfl))
            (try simp only [Act.put, PS])
            refine wpAnyH_take (i := 17) (oi := _) (v := ?_) rfl (by kernel_rfl) (by kernel_rfl) (by kernel_rfl) (fun _ _ _ h => h) (Or.inl ⟨by rfl, ?_⟩) (by assumption) ?_
            rotate_left
            · (intro wx hSw; (try dsimp only at hSw); go_simp; (try with_reducible rfl))
            (try simp only [Act.put, PS])
            refine wpAnyH_take (i := 18) (oi := _) (v := ?_) rfl (by kernel_rfl) (by kernel_rfl) (by kernel_rfl) (fun _ _ _ h => h) (Or.inl ⟨by rfl, ?_⟩) (by assumption) ?_
            rotate_left
            · (intro wx hSw; (try dsimp only at hSw); go_simp; (try with_reducible rfl))
            (try simp only [Act.put, PS])
            refine wpAnyH_take (i := 19) (oi := _) (v := ?_) rfl (by kernel_rfl) (by kernel_rfl) (by kernel_rfl) (fun _ _ _ h => h) (Or.inl ⟨by rfl, ?_⟩) (by assumption) ?_
            rotate_left
            · (intro wx hSw; (try dsimp only at hSw); go_simp; (try with_reducible rfl))
            (try simp only [Act.put, PS])
            refine wpAnyH_take (i := 20) (oi := _) (v := ?_) rfl (by kernel_rfl) (by kernel_rfl) (by kernel_rfl) (fun _ _ _ h => h) (Or.inl ⟨by rfl, ?_⟩) (by assumption) ?_
            rotate_left
            · (intro wx hSw; (try dsimp only at hSw); go_simp; (try with_reducible rfl))
            (try simp only [Act.put, PS])
            refine wpAnyH_take (i := 21) (oi := _) (v := ?_) rfl (by kernel_rfl) (by kernel_rfl) (by kernel_rfl) (fun _ _ _ h => h) (Or.inl ⟨by rfl, ?_⟩) (by assumption) ?_
            rotate_left
            · (intro wx hSw; (try dsimp only at hSw); go_simp; (try with_reducible rfl))
            (try simp only [Act.put, PS])
            refine wpAnyH_take (i := 22) (oi := _) (v := ?_) rfl (by kernel_rfl) (by kernel_rfl) (by kernel_rfl) (fun _ _ _ h => h) (Or.inl ⟨by rfl, ?_⟩) (by assumption) ?_
            rotate_left
            · (intro wx hSw; (try dsimp only at hSw); go_simp; (try with_reducible rfl))
            (try simp only [Act.put, PS])
            refine wpAnyH_take (i := 23) (oi := _) (v := ?_) rfl (by kernel_rfl) (by kernel_rfl) (by kernel_rfl) (fun _ _ _ h => h) (Or.inl ⟨by rfl, ?_⟩) (by assumption) ?_
            rotate_left
            · (intro wx hSw; (try dsimp only at hSw); go_simp; (try with_reducible rfl))
            (try simp only [Act.put, PS])
            refine wpAnyH_done (by kernel_rfl) ?_ _
            have q := hS.2.2.2.2.2
            clear KS M1 SN
            go_wp2
            go_ret
            exact ⟨ret_bool (by rw [HV.out]), q⟩
          · have TM : Hid (tmOk l i) := Lib.hid (fun j' hj h => by (obtain rfl : j' = j := by have := HJ.out; omega); rw [← HX.out, ← HY.out]; exact htm)
            have htm2 : decide (y.tm < x.tm) = false := decide_eq_false htm
            have KS : Hid (∀ b, Q w b → (fun w' => w'.cell? (a.add (i * 4)) = some (.int .u64 (x.id : Nat)) ∧ w'.cell? ⟨(a.add (i * 4)).block, (a.add (i * 4)).off + 1, none⟩ = some (.string x.data) ∧ w'.cell? ⟨(a.add (i * 4)).block, (a.add (i * 4)).off + 2, none⟩ = some (.bool x.mark) ∧ w'.cell? ⟨(a.add (i * 4)).block, (a.add (i * 4)).off + 3, none⟩ = some (.int .i64 x.tm) ∧ w'.cell? ⟨(a.add (j * 4)).block, (a.add (j * 4)).off + 3, none⟩ = some (.int .i64 y.tm) ∧ Q w w') b) := Lib.hid (by
              intro b q
              obtain ⟨c0, c1, c2, c3⟩ := AT b q
              obtain ⟨-, -, -, d3⟩ := BT b q
              exact ⟨c0, c1, c2, c3, d3, q⟩)
            have M1 : Hid (∀ b, (fun w' => w'.cell? (a.add (i * 4)) = some (.int .u64 (x.id : Nat)) ∧ w'.cell? ⟨(a.add (i * 4)).block, (a.add (i * 4)).off + 1, none⟩ = some (.string x.data) ∧ w'.cell? ⟨(a.add (i * 4)).block, (a.add (i * 4)).off + 2, none⟩ = some (.bool x.mark) ∧ w'.cell? ⟨(a.add (i * 4)).block, (a.add (i * 4)).off + 3, none⟩ = some (.int .i64 x.tm) ∧ w'.cell? ⟨(a.add (j * 4)).block, (a.add (j * 4)).off + 3, none⟩ = some (.int .i64 y.tm) ∧ Q w w') b → Calls Tryz.prog 126 #[.agg #[.int .u64 (x.id : Nat), .string x.data, .bool x.mark, .int .i64 x.tm]] b fun e w' => e = .returned (.bool true) ∧ (fun w' => w'.cell? (a.add (i * 4)) = some (.int .u64 (x.id : Nat)) ∧ w'.cell? ⟨(a.add (i * 4)).block, (a.add (i * 4)).off + 1, none⟩ = some (.string x.data) ∧ w'.cell? ⟨(a.add (i * 4)).block, (a.add (i * 4)).off + 2, none⟩ = some (.bool x.mark) ∧ w'.cell? ⟨(a.add (i * 4)).block, (a.add (i * 4)).off + 3, none⟩ = some (.int .i64 x.tm) ∧ w'.cell? ⟨(a.add (j * 4)).block, (a.add (j * 4)).off + 3, none⟩ = some (.int .i64 y.tm) ∧ Q w w') w') := Lib.hid (by
              intro b h
              refine (M0 b).mono ?_
              rintro e w' ⟨rfl, q'⟩
              exact ⟨rfl, KS.out _ (Q.trans h.2.2.2.2.2 q')⟩)
            have SN : Hid ((fun w' => w'.cell? (a.add (i * 4)) = some (.int .u64 (x.id : Nat)) ∧ w'.cell? ⟨(a.add (i * 4)).block, (a.add (i * 4)).off + 1, none⟩ = some (.string x.data) ∧ w'.cell? ⟨(a.add (i * 4)).block, (a.add (i * 4)).off + 2, none⟩ = some (.bool x.mark) ∧ w'.cell? ⟨(a.add (i * 4)).block, (a.add (i * 4)).off + 3, none⟩ = some (.int .i64 x.tm) ∧ w'.cell? ⟨(a.add (j * 4)).block, (a.add (j * 4)).off + 3, none⟩ = some (.int .i64 y.tm) ∧ Q w w') wr.drew) := Lib.hid (KS.out _ q0.drew)
            clear AT M0 BT
            go_wp2_with fail
            refine wp_region_held_drew (S := (fun w' => w'.cell? (a.add (i * 4)) = some (.int .u64 (x.id : Nat)) ∧ w'.cell? ⟨(a.add (i * 4)).block, (a.add (i * 4)).off + 1, none⟩ = some (.string x.data) ∧ w'.cell? ⟨(a.add (i * 4)).block, (a.add (i * 4)).off + 2, none⟩ = some (.bool x.mark) ∧ w'.cell? ⟨(a.add (i * 4)).block, (a.add (i * 4)).off + 3, none⟩ = some (.int .i64 x.tm) ∧ w'.cell? ⟨(a.add (j * 4)).block, (a.add (j * 4)).off + 3, none⟩ = some (.int .i64 y.tm) ∧ Q w w')) (by kernel_rfl) SN.out (fun hHeld => ?_)
            refine wpAnyH_take (i := 0) (oi := _) (v := ?_) rfl (by kernel_rfl) (by kernel_rfl) (by kernel_rfl) (fun _ _ _ h => h) (Or.inl ⟨by rfl, ?_⟩) (by assumption) ?_
            rotate_left
            · (intro wx hSw; (try dsimp only at hSw); go_simp; (try with_reducible rfl))
            (try simp only [Act.put, PS])
            refine wpAnyH_take (i := 1) (oi := _) (v := ?_) rfl (by kernel_rfl) (by kernel_rfl) (by kernel_rfl) (fun _ _ _ h => h) (Or.inl ⟨by rfl, ?_⟩) (by assumption) ?_
            rotate_left
            · (intro wx hSw; (try dsimp only at hSw); go_simp; (try with_reducible rfl))
            (try simp only [Act.put, PS])
            refine wpAnyH_take (i := 2) (oi := _) (v := ?_) rfl (by kernel_rfl) (by kernel_rfl) (by kernel_rfl) (fun _ _ _ h => h) (Or.inl ⟨by rfl, ?_⟩) (by assumption) ?_
            rotate_left
            · (intro wx hSw; (try dsimp only at hSw); go_simp; (try with_reducible rfl))
            (try simp only [Act.put, PS])
            refine wpAnyH_take (i := 3) (oi := _) (v := ?_) rfl (by kernel_rfl) (by kernel_rfl) (by kernel_rfl) (fun _ _ _ h => h) (Or.inl ⟨by rfl, ?_⟩) (by assumption) ?_
            rotate_left
            · (intro wx hSw; (try dsimp only at hSw); go_simp; (try with_reducible rfl))
            (try simp only [Act.put, PS])
            refine wpAnyH_ready (rs := [4]) (by kernel_rfl) (by simp) ?_
            refine AllReadyH.cons (o := _) rfl (fun K hK => ?_) AllReadyH.nil
            go_simp
            go_at_call 126
            refine (M1.out _ (by assumption)).mono ?_
            rintro e w' ⟨rfl, hS⟩
            refine hK.out _ _ hS (fun hHeld => ?_)
            clear hK K
            (try simp only [Act.put, PS])
            refine wpAnyH_take (i := 5) (oi := _) (v := ?_) rfl (by kernel_rfl) (by kernel_rfl) (by kernel_rfl) (fun _ _ _ h => h) (Or.inl ⟨by rfl, ?_⟩) (by assumption) ?_
            rotate_left
            · (intro wx hSw; (try dsimp only at hSw); go_simp; (try with_reducible rfl))
            (try simp only [Act.put, PS])
            refine wpAnyH_take (i := 6) (oi := _) (v := ?_) rfl (by kernel_rfl) (by kernel_rfl) (by kernel_rfl) (fun _ _ _ h => h) (Or.inl ⟨by rfl, ?_⟩) (by assumption) ?_
            rotate_left
            · (intro wx hSw; (try dsimp only at hSw); go_simp; (try with_reducible rfl))
            (try simp only [Act.put, PS])
            refine wpAnyH_take (i := 7) (oi := _) (v := ?_) rfl (by kernel_rfl) (by kernel_rfl) (by kernel_rfl) (fun _ _ _ h => h) (Or.inl ⟨by rfl, ?_⟩) (by assumption) ?_
            rotate_left
            · (intro wx hSw; (try dsimp only at hSw); go_simp; (try with_reducible rfl))
            (try simp only [Act.put, PS])
            refine wpAnyH_take (i := 8) (oi := _) (v := .bool true) rfl (by kernel_rfl) (by kernel_rfl) (by kernel_rfl) (fun _ _ _ h => h) (Or.inl ⟨by rfl, ?_⟩) (by assumption) ?_
            · (intro wx hSw; (try dsimp only at hSw); go_simp; (try omega); (try simp [*]); (try omega))
            (try simp only [Act.put, PS])
            refine wpAnyH_take (i := 9) (oi := _) (v := ?_) rfl (by kernel_rfl) (by kernel_rfl) (by kernel_rfl) (fun _ _ _ h => h) (Or.inl ⟨by rfl, ?_⟩) (by assumption) ?_
            rotate_left
            · (intro wx hSw; (try dsimp only at hSw); go_simp; (try with_reducible rfl))
            (try simp only [Act.put, PS])
            refine wpAnyH_take (i := 10) (oi := _) (v := ?_) rfl (by kernel_rfl) (by kernel_rfl) (by kernel_rfl) (fun _ _ _ h => h) (Or.inl ⟨by rfl, ?_⟩) (by assumption) ?_
            rotate_left
            · (intro wx hSw; (try dsimp only at hSw); go_simp; (try with_reducible rfl))
            (try simp only [Act.put, PS])
            refine wpAnyH_take (i := 11) (oi := _) (v := ?_) rfl (by kernel_rfl) (by kernel_rfl) (by kernel_rfl) (fun _ _ _ h => h) (Or.inl ⟨by rfl, ?_⟩) (by assumption) ?_
            rotate_left
            · (intro wx hSw; (try dsimp only at hSw); go_simp; (try with_reducible rfl))
            (try simp only [Act.put, PS])
            refine wpAnyH_take (i := 12) (oi := _) (v := ?_) rfl (by kernel_rfl) (by kernel_rfl) (by kernel_rfl) (fun _ _ _ h => h) (Or.inl ⟨by rfl, ?_⟩) (by assumption) ?_
            rotate_left
            · (intro wx hSw; (try dsimp only at hSw); go_simp; (try with_reducible rfl))
            (try simp only [Act.put, PS])
            refine wpAnyH_take (i := 13) (oi := _) (v := ?_) rfl (by kernel_rfl) (by kernel_rfl) (by kernel_rfl) (fun _ _ _ h => h) (Or.inl ⟨by rfl, ?_⟩) (by assumption) ?_
            rotate_left
            · (intro wx hSw; (try dsimp only at hSw); go_simp; (try with_reducible rfl))
            (try simp only [Act.put, PS])
            refine wpAnyH_take (i := 14) (oi := _) (v := ?_) rfl (by kernel_rfl) (by kernel_rfl) (by kernel_rfl) (fun _ _ _ h => h) (Or.inl ⟨by rfl, ?_⟩) (by assumption) ?_
            rotate_left
            · (intro wx hSw; (try dsimp only at hSw); go_simp; (try with_reducible rfl))
            (try simp only [Act.put, PS])
            refine wpAnyH_take (i := 15) (oi := _) (v := ?_) rfl (by kernel_rfl) (by kernel_rfl) (by kernel_rfl) (fun _ _ _ h => h) (Or.inl ⟨by rfl, ?_⟩) (by assumption) ?_
            rotate_left
            · (intro wx hSw; (try dsimp only at hSw); go_simp; (try with_reducible rfl))
            (try simp only [Act.put, PS])
            refine wpAnyH_take (i := 16) (oi := _) (v := ?_) rfl (by kernel_rfl) (by kernel_rfl) (by kernel_rfl) (fun _ _ _ h => h) (Or.inl ⟨by rfl, ?_⟩) (by assumption) ?_
            rotate_left
            · (intro wx hSw; (try dsimp only at hSw); go_simp; (try with_reducible rfl))
            (try simp only [Act.put, PS])
            refine wpAnyH_take (i := 17) (oi := _) (v := ?_) rfl (by kernel_rfl) (by kernel_rfl) (by kernel_rfl) (fun _ _ _ h => h) (Or.inl ⟨by rfl, ?_⟩) (by assumption) ?_
            rotate_left
            · (intro wx hSw; (try dsimp only at hSw); go_simp; (try with_reducible rfl))
            (try simp only [Act.put, PS])
            refine wpAnyH_take (i := 18) (oi := _) (v := ?_) rfl (by kernel_rfl) (by kernel_rfl) (by kernel_rfl) (fun _ _ _ h => h) (Or.inl ⟨by rfl, ?_⟩) (by assumption) ?_
            rotate_left
            · (intro wx hSw; (try dsimp only at hSw); go_simp; (try with_reducible rfl))
            (try simp only [Act.put, PS])
            refine wpAnyH_take (i := 19) (oi := _) (v := ?_) rfl (by kernel_rfl) (by kernel_rfl) (by kernel_rfl) (fun _ _ _ h => h) (Or.inl ⟨by rfl, ?_⟩) (by assumption) ?_
            rotate_left
            · (intro wx hSw; (try dsimp only at hSw); go_simp; (try with_reducible rfl))
            (try simp only [Act.put, PS])
            refine wpAnyH_take (i := 20) (oi := _) (v := ?_) rfl (by kernel_rfl) (by kernel_rfl) (by kernel_rfl) (fun _ _ _ h => h) (Or.inl ⟨by rfl, ?_⟩) (by assumption) ?_
            rotate_left
            · (intro wx hSw; (try dsimp only at hSw); go_simp; (try with_reducible rfl))
            (try simp only [Act.put, PS])
            refine wpAnyH_take (i := 21) (oi := _) (v := ?_) rfl (by kernel_rfl) (by kernel_rfl) (by kernel_rfl) (fun _ _ _ h => h) (Or.inl ⟨by rfl, ?_⟩) (by assumption) ?_
            rotate_left
            · (intro wx hSw; (try dsimp only at hSw); go_simp; (try with_reducible rfl))
            (try simp only [Act.put, PS])
            refine wpAnyH_take (i := 22) (oi := _) (v := ?_) rfl (by kernel_rfl) (by kernel_rfl) (by kernel_rfl) (fun _ _ _ h => h) (Or.inl ⟨by rfl, ?_⟩) (by assumption) ?_
            rotate_left
            · (intro wx hSw; (try dsimp only at hSw); go_simp; (try with_reducible rfl))
            (try simp only [Act.put, PS])
            refine wpAnyH_take (i := 23) (oi := _) (v := ?_) rfl (by kernel_rfl) (by kernel_rfl) (by kernel_rfl) (fun _ _ _ h => h) (Or.inl ⟨by rfl, ?_⟩) (by assumption) ?_
            rotate_left
            · (intro wx hSw; (try dsimp only at hSw); go_simp; (try with_reducible rfl))
            (try simp only [Act.put, PS])
            refine wpAnyH_done (by kernel_rfl) ?_ _
            have q := hS.2.2.2.2.2
            clear KS M1 SN
            go_wp2_with fail
            go_loopw [4] (fun K wr2 => ∃ k : Nat, k ≤ i ∧ K = .int .i64 k ∧ Q w wr2 ∧ Hid (pairsTo l i k)) (fun K _ => i - (intOf K).toNat)
            case atStart => exact ⟨0, Nat.zero_le _, rfl, q, Lib.hid (fun k hi hk => by omega)⟩
            case round =>
              obtain ⟨k, hk, rfl, q2, HP⟩ := hrel
              by_cases hlk : k < i
              · obtain ⟨a', ea, -, hat2⟩ := HC.out k (by omega)
                obtain rfl := Option.some.inj ea
                clear ea
                obtain ⟨z, hz⟩ : ∃ z, z = l[k]'(by omega) := ⟨_, rfl⟩
                rw [← hz] at hat2
                obtain ⟨d0, -, -, -⟩ := hat2.keep (by rw [add_block]; exact ha) fun _ hp => q2.cell hp
                obtain ⟨c0, -, -, -⟩ := HAT.out _ q2
                have HZ := Lib.hid hz
                clear hz hat2
                have NO : pairBad z x = true → R = false := fun hb => chkP_no HR.out (fun o => by have := (o.2 (i)).2.2 k hlt hlk (by omega); rw [← HX.out, ← HZ.out, hb] at this; simp at this)
                have YES : pairBad z x = false → pairsTo l (i) (k + 1) := fun hb k' hi hk' hk2 => by
                  by_cases e : k' = k
                  · subst e; rw [← HX.out, ← HZ.out]; exact hb
                  · exact HP.out k' hi (by omega) hk2
                by_cases hx0 : x.id = 0
                · by_cases hz0 : z.id = 0
                  · skip
                    have HV := Lib.hid (NO (by rw [pairBad]; simp [*]))
                    have x0 : ((x.id : Int) == 0) = true := by simp [*]
                    have z0 : ((z.id : Int) == 0) = true := by simp [*]
                    clear hx0 hz0
                    clear NO YES
                    go_wp2_with fail
                    go_quiet (fail)
                    go_wp2
                    go_ret
                    exact ⟨ret_bool (by rw [HV.out]), q2.drewN _⟩
                  · skip
                    have HV := Lib.hid (YES (by rw [pairBad]; simp [*]))
                    have x0 : ((x.id : Int) == 0) = true := by simp [*]
                    have z0 : ((z.id : Int) == 0) = false := by simp [*]
                    have x1 : ((x.id : Int) != 0) = false := by simp [*]
                    have z1 : ((z.id : Int) != 0) = true := by simp [*]
                    clear hx0 hz0
                    clear NO YES
                    go_wp2_with fail
                    go_quiet (fail)
                    go_wp2
                    go_roundw
                    case rel => exact ⟨k + 1, by omega, by go_num, q2.drewN _, HV⟩
                    case measure => simp [intOf]; omega
                · by_cases hz0 : z.id = 0
                  · skip
                    have HV := Lib.hid (YES (by rw [pairBad]; simp [*]))
                    have x0 : ((x.id : Int) == 0) = false := by simp [*]
                    have z0 : ((z.id : Int) == 0) = true := by simp [*]
                    have x1 : ((x.id : Int) != 0) = true := by simp [*]
                    have z1 : ((z.id : Int) != 0) = false := by simp [*]
                    clear hx0 hz0
                    clear NO YES
                    go_wp2_with fail
                    go_quiet (fail)
                    go_wp2
                    go_roundw
                    case rel => exact ⟨k + 1, by omega, by go_num, q2.drewN _, HV⟩
                    case measure => simp [intOf]; omega
                  · by_cases hzx : z.id ≤ x.id
                    · skip
                      have HV := Lib.hid (NO (by rw [pairBad]; simp [*]))
                      have x0 : ((x.id : Int) == 0) = false := by simp [*]
                      have z0 : ((z.id : Int) == 0) = false := by simp [*]
                      have x1 : ((x.id : Int) != 0) = true := by simp [*]
                      have z1 : ((z.id : Int) != 0) = true := by simp [*]
                      have hzx' : (z.id : Int) ≤ (x.id : Int) := by omega
                      clear hx0 hz0 hzx
                      clear NO YES
                      go_wp2_with fail
                      go_quiet (fail)
                      go_wp2
                      go_ret
                      exact ⟨ret_bool (by rw [HV.out]), q2.drewN _⟩
                    · skip
                      have HV := Lib.hid (YES (by rw [pairBad]; simp [*]))
                      have x0 : ((x.id : Int) == 0) = false := by simp [*]
                      have z0 : ((z.id : Int) == 0) = false := by simp [*]
                      have x1 : ((x.id : Int) != 0) = true := by simp [*]
                      have z1 : ((z.id : Int) != 0) = true := by simp [*]
                      have hzx' : ¬ (z.id : Int) ≤ (x.id : Int) := by omega
                      have hzx2 : decide ((z.id : Int) ≤ (x.id : Int)) = false := decide_eq_false hzx'
                      clear hx0 hz0 hzx
                      clear NO YES
                      go_wp2_with fail
                      go_quiet (fail)
                      go_wp2
                      go_roundw
                      case rel => exact ⟨k + 1, by omega, by go_num, q2.drewN _, HV⟩
                      case measure => simp [intOf]; omega
              · have HK2 : Hid (∀ j', j' < i + 1 → stepOk l j') := Lib.hid (fun j' hj' => by
                  by_cases e : j' = i
                  · rw [e]; exact ⟨fun h => by rw [← HX.out]; exact hm.out, TM.out, by have := HP.out; rwa [show k = i by omega] at this⟩
                  · exact HK.out j' (by omega))
                go_wp2
                go_roundw
                case rel => exact ⟨i + 1, by omega, by go_num, q2, HK2⟩
                case measure => simp [intOf]; omega
    · have HV := Lib.hid (chk_end HR.out (fun j h => HK.out j (by omega)))
      by_cases h20 : l.length ≤ 20
      · have h20' : (l.length : Int) ≤ 20 := by omega
        go_wp2
        go_ret
        exact ⟨ret_bool (by rw [HV.out]; simp [h20]), q0⟩
      · have h20' : ¬ (l.length : Int) ≤ 20 := by omega
        go_wp2
        go_ret
        exact ⟨ret_bool (by rw [HV.out]; simp [h20]), q0⟩
end Go.Proofs.YtjjlbbfhmpbneaaGreat

