/-
  Contracts of the program's Put, Drop and Delete, whole.
-/
import Derived.Test.YtflfhigldkdlmaaPPut
namespace Go.Proofs.Ytflfhigldkdlmaa
open Go.ChangeShapes Go.WideShapes Go.ChangeAt Go.RowKit
set_option linter.unusedVariables false
set_option linter.unusedSimpArgs false

theorem mayLay_good (l : List Ver) (v : Value) (s : Int) (x : Ver) (w : World) (hm : mayV x = true) (hz : ¬ (s = 1 ∧ x.id = 0)) (hl : ∀ y m, l = y :: m → y.tm ≤ x.tm) (ht : Vers w w.heap.size v l) :
    Calls Try.prog 27 #[v, .int .i64 s, ver x] w fun e w' => e = .returned (.bool true) ∧ Q w w' := by
  cases l with
  | nil => exact mayLay_nil [] v s x w hm hz rfl ht
  | cons y m => exact mayLay_yes (y :: m) v s x w hm hz (by simp) (hl y m rfl) ht
theorem put_any (l : List Ver) (v : Value) (s : Int) (x : Ver) (w : World) (L : List Ver) (c : Nat) (h : PutC l s x L c) (hl : l.length ≤ 900) (hx : okV x) (ht : Vers w w.heap.size v l) :
    Calls Try.prog 12 #[v, .int .i64 s, ver x] w fun e w' => ∃ v', e = .returned (.tuple #[v', .int .i64 (c : Nat)]) ∧ OwnV w.heap.size w' v' L ∧ Q w w' := by
  cases h with
  | chk h1 =>
    by_cases hs : s < 0 ∨ 2 < s
    · exact put_chkx l v s x w h1 hs hl hx ht
    · exact put_chk l v s x w h1 (by omega) (by omega) hl hx ht
  | state h1 h2 => exact put_state l v s x w h1 h2 hl hx ht
  | may h1 h2 h3 h4 => exact put_bad l v s x w h1 h2 h3 (fun b q => mayLay_may v s x b h4) hl hx ht
  | zero h1 h2 h3 h4 =>
    subst h2
    exact put_bad l v 1 x w h1 (by omega) (by omega) (fun b q => mayLay_zero v x b h3 h4) hl hx ht
  | late h1 h2 h3 h4 h5 h6 =>
    obtain ⟨y, m, rfl, hy⟩ := h6
    exact put_bad (y :: m) v s x w h1 h2 h3 (fun b q => mayLay_no (y :: m) v s x b h4 h5 (by simp) hy (ht.on q)) hl hx ht
  | order h1 h2 h3 h4 h5 h6 => exact put_order l v s x w h1 h2 (fun b q => mayLay_good l v s x b h3 (fun e => h4 e.2) h5 (ht.on q)) h6 hl hx ht
  | large h1 h2 h3 h4 h5 h6 h7 => exact put_large l v s x w h1 h2 (fun b q => mayLay_good l v s x b h3 (fun e => h4 e.2) h5 (ht.on q)) h6 h7 hl hx ht
  | on h1 h2 h3 h4 h5 h6 h7 => exact put_on l v s x w h1 h2 (fun b q => mayLay_good l v s x b h3 (fun e => h4 e.2) h5 (ht.on q)) h6 h7 hl hx ht
  | large0 h1 h2 h3 h4 h5 => exact put_large0 l v s x w h1 h2 (fun b q => mayLay_good l v s x b h3 (by omega) h4 (ht.on q)) h5 hl hx ht
  | over h1 h2 h3 h4 h5 => exact put_over l v s x w h1 h2 (fun b q => mayLay_good l v s x b h3 (by omega) h4 (ht.on q)) h5 hl hx ht

/-- What a Drop comes to: the chain, and the error's number. -/
inductive DropC (l : List Ver) (id : Nat) : List Ver → Nat → Prop
  | chk : ¬ okP l → DropC l id [] 1
  | none : okP l → (∀ j (hl : j < l.length), l[j].id ≠ id) → DropC l id [] 4
  | yes : okP l → (∃ i, ∃ h : i < l.length, l[i].id = id) → DropC l id (woV l id) 0
theorem dropC_ex (l : List Ver) (id : Nat) : ∃ L c, DropC l id L c := by
  by_cases h1 : okP l
  · by_cases h2 : ∃ i, ∃ h : i < l.length, l[i].id = id
    · exact ⟨_, _, .yes h1 h2⟩
    · exact ⟨_, _, .none h1 (fun j hl e => h2 ⟨j, hl, e⟩)⟩
  · exact ⟨_, _, .chk h1⟩
set_option maxHeartbeats 1000000 in
theorem drop_any (l : List Ver) (v : Value) (id : Nat) (w : World) (L : List Ver) (c : Nat) (h : DropC l id L c) (hl : l.length ≤ 900) (ht : Vers w w.heap.size v l) :
    Calls Try.prog 20 #[v, .int .u64 (id : Nat)] w fun e w' => ∃ v', e = .returned (.tuple #[v', .int .i64 (c : Nat)]) ∧ OwnV w.heap.size w' v' L ∧ Q w w' := by
  have P : Hid (∀ b, Q w b → Calls Try.prog 33 #[v, .int .u64 (id : Nat)] b fun e w' => e = .returned (.int .i64 (idxV (fun x => decide (x.id = id)) l)) ∧ Q b w') := Lib.hid (fun b q => place_any l v id b (by omega) (ht.on q))
  have BAD : ¬ okP l → L = [] → c = 1 → Calls Try.prog 20 #[v, .int .u64 (id : Nat)] w fun e w' => ∃ v', e = .returned (.tuple #[v', .int .i64 (c : Nat)]) ∧ OwnV w.heap.size w' v' L ∧ Q w w' := by
    intro hR e1 e2
    subst e1 e2
    have CK := Lib.hid (check_bad l v w hR (by omega) ht)
    clear hR ht P h
    go_enter Try.func20, Try.ntmps20
    go_wp2_with fail
    refine (CK.out).mono ?_
    rintro e w1 ⟨rfl, q1⟩
    go_wp2
    go_ret2
    exact ⟨_, rfl, OwnV.nil _ _, q1⟩
  have NONE : okP l → (∀ j (hl : j < l.length), l[j].id ≠ id) → L = [] → c = 4 → Calls Try.prog 20 #[v, .int .u64 (id : Nat)] w fun e w' => ∃ v', e = .returned (.tuple #[v', .int .i64 (c : Nat)]) ∧ OwnV w.heap.size w' v' L ∧ Q w w' := by
    intro hR hn e1 e2
    subst e1 e2
    have CK := Lib.hid (check_ok l v w hR (by omega) ht)
    have hp : idxV (fun x => decide (x.id = id)) l = -1 := idxV_none (fun j hl => by simpa using hn j hl)
    rw [hp] at P
    clear hR ht h hn BAD hp
    go_enter Try.func20, Try.ntmps20
    go_wp2_with fail
    refine (CK.out).mono ?_
    rintro e w1 ⟨rfl, q1⟩
    go_wp2_with fail
    refine (P.out _ q1).mono ?_
    rintro e w2 ⟨rfl, q2⟩
    go_wp2
    go_ret2
    exact ⟨_, rfl, OwnV.nil _ _, q1.trans q2⟩
  cases h with
  | chk h1 => exact BAD h1 rfl rfl
  | none h1 h2 => exact NONE h1 h2 rfl rfl
  | yes hR h2 =>
    rcases place_cases l id with ⟨i, hi, hp, h0⟩ | ⟨hp, hn⟩
    · have CK := Lib.hid (check_ok l v w hR (by omega) ht)
      have W : Hid (∀ b, Q w b → Calls Try.prog 34 #[v, .int .i64 (i : Nat)] b fun e w' => ∃ v', e = .returned v' ∧ OwnV b.heap.size w' v' (woV l id) ∧ Q b w') := Lib.hid (fun b q => by
        have := without_any l v i b hi (by omega) (ht.on q)
        rw [← wo_cut hR hi, h0] at this
        exact this)
      rw [hp] at P
      clear hR ht h2 BAD NONE hp h0 hi
      go_enter Try.func20, Try.ntmps20
      go_wp2_with fail
      refine (CK.out).mono ?_
      rintro e w1 ⟨rfl, q1⟩
      go_wp2_with fail
      refine (P.out _ q1).mono ?_
      rintro e w2 ⟨rfl, q2⟩
      have q3 := q1.trans q2
      go_wp2_with fail
      refine (W.out _ q3).mono ?_
      rintro e w3 ⟨v3, rfl, o3, q4⟩
      go_wp2
      go_ret2
      exact ⟨_, rfl, OwnV.lower o3 q3.size, q3.trans q4⟩
    · obtain ⟨i, hi, e⟩ := h2
      exact absurd e (hn i hi)

/-- What a Delete comes to. -/
def markV (id : Nat) (tm : Int) : Ver := ⟨id, ⟨#[]⟩, true, tm⟩
def DelC (l : List Ver) (s : Int) (id : Nat) (tm : Int) (L : List Ver) (c : Nat) : Prop :=
  (s = 0 ∧ DropC l 0 L c) ∨ (s ≠ 0 ∧ PutC l s (markV (if s = 2 then 0 else id) tm) L c)
theorem delC_ex (l : List Ver) (s : Int) (id : Nat) (tm : Int) : ∃ L c, DelC l s id tm L c := by
  by_cases h : s = 0
  · obtain ⟨L, c, k⟩ := dropC_ex l 0
    exact ⟨L, c, .inl ⟨h, k⟩⟩
  · obtain ⟨L, c, k⟩ := putC_ex l s (markV (if s = 2 then 0 else id) tm)
    exact ⟨L, c, .inr ⟨h, k⟩⟩
theorem markV_ok {id : Nat} {tm : Int} (h : id < 18446744073709551616) (h1 : -9223372036854775808 ≤ tm) (h2 : tm ≤ 9223372036854775807) : okV (markV id tm) := ⟨h, by show 0 ≤ maxLen; omega, h1, h2⟩
set_option maxHeartbeats 1000000 in
theorem delete_any (l : List Ver) (v : Value) (s : Int) (id : Nat) (tm : Int) (w : World) (L : List Ver) (c : Nat) (h : DelC l s id tm L c) (hl : l.length ≤ 900) (hid : id < 18446744073709551616) (ht1 : -9223372036854775808 ≤ tm) (ht2 : tm ≤ 9223372036854775807) (ht : Vers w w.heap.size v l) :
    Calls Try.prog 14 #[v, .int .i64 s, .int .u64 (id : Nat), .int .i64 tm] w fun e w' => ∃ v', e = .returned (.tuple #[v', .int .i64 (c : Nat)]) ∧ OwnV w.heap.size w' v' L ∧ Q w w' := by
  rcases h with ⟨rfl, h⟩ | ⟨h0, h⟩
  · have C := Lib.hid (drop_any l v 0 w L c h hl ht)
    clear h ht
    go_enter Try.func14, Try.ntmps14
    go_wp2_with fail
    refine (C.out).mono ?_
    rintro e w1 ⟨v1, rfl, o1, q1⟩
    go_wp2
    go_ret2
    exact ⟨_, rfl, o1, q1⟩
  · have h00 : (s == 0) = false := by simpa using h0
    by_cases h2 : s = 2
    · rw [if_pos h2] at h
      subst h2
      have C := Lib.hid (put_any l v 2 _ w L c h hl (markV_ok (by omega) ht1 ht2) ht)
      rw [ver] at C
      simp only [markV] at C
      clear h ht h0
      go_enter Try.func14, Try.ntmps14
      go_wp2_with fail
      refine (C.out).mono ?_
      rintro e w1 ⟨v1, rfl, o1, q1⟩
      go_wp2
      go_ret2
      exact ⟨_, rfl, o1, q1⟩
    · rw [if_neg h2] at h
      have h22 : (s == 2) = false := by simpa using h2
      have C := Lib.hid (put_any l v s _ w L c h hl (markV_ok hid ht1 ht2) ht)
      rw [ver] at C
      simp only [markV] at C
      clear h ht h0 h2
      go_enter Try.func14, Try.ntmps14
      go_wp2_with fail
      refine (C.out).mono ?_
      rintro e w1 ⟨v1, rfl, o1, q1⟩
      go_wp2
      go_ret2
      exact ⟨_, rfl, o1, q1⟩
end Go.Proofs.Ytflfhigldkdlmaa
