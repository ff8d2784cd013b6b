/-
  Contracts of the document's Put, Drop, Delete and Get, whole.
-/
import Derived.Test.YtflfhigldkdlmaaPRputB
import Derived.Test.YtflfhigldkdlmaaPRputC
import Derived.Test.YtflfhigldkdlmaaPRputD
import Derived.Test.YtflfhigldkdlmaaVOk
namespace Go.Proofs.Ytflfhigldkdlmaa
open Go.ChangeShapes Go.WideShapes Go.ChangeAt Go.RowKit
set_option linter.unusedVariables false
set_option linter.unusedSimpArgs false

theorem rput_any (l : List Ver) (v : Value) (s : Int) (x : Ver) (w : World) (L : List Ver) (c : Nat) (h : PutC l s x L c) (hl : l.length ≤ 900) (hx : okV x) (ht : Vers w w.heap.size v l) :
    Calls Try.prog 13 #[v, .int .i64 s, ver x] w fun e w' => ∃ v', e = .returned (.tuple #[v', .int .i64 (c : Nat)]) ∧ OwnV w.heap.size w' v' L ∧ Q w w' := by
  cases h with
  | chk h1 => exact rput_chk l v s x w h1 hl hx ht
  | state h1 h2 =>
    rcases h2 with h2 | h2
    · exact rput_low l v s x w h1 h2 hl hx ht
    · exact rput_high l v s x w h1 h2 hl hx ht
  | may h1 h2 h3 h4 => exact rput_may l v s x w h1 h2 h3 h4 hl hx ht
  | zero h1 h2 h3 h4 => exact rput_zero l v s x w h1 h2 h3 h4 hl hx ht
  | late h1 h2 h3 h4 h5 h6 =>
    obtain ⟨y, m, rfl, hy⟩ := h6
    by_cases hs : s = 1
    · exact rput_late1 (y :: m) v s x w h1 hs (fun e => h5 ⟨hs, e⟩) h4 (by simp) hy hl hx ht
    · exact rput_late0 (y :: m) v s x w h1 (by omega) h4 (by simp) hy hl hx ht
  | order h1 h2 h3 h4 h5 h6 =>
    cases l with
    | nil => simp at h6
    | cons y m => exact rput_order_first (y :: m) v s x w h1 h2 h4 h3 (by simp) (h5 y m rfl) h6 hl hx ht
  | large h1 h2 h3 h4 h5 h6 h7 =>
    cases l with
    | nil => simp at h7
    | cons y m => exact rput_large_first (y :: m) v s x w h1 h2 h4 h3 (by simp) (h5 y m rfl) h6 h7 hl hx ht
  | on h1 h2 h3 h4 h5 h6 h7 =>
    cases l with
    | nil => exact rput_on_nil [] v s x w h1 h2 h4 h3 rfl h6 h7 hl hx ht
    | cons y m => exact rput_on_first (y :: m) v s x w h1 h2 h4 h3 (by simp) (h5 y m rfl) h6 h7 hl hx ht
  | large0 h1 h2 h3 h4 h5 =>
    cases l with
    | nil => simp [woV] at h5
    | cons y m => exact rput_large0_first (y :: m) v s x w h1 h2 h3 (by simp) (h4 y m rfl) h5 hl hx ht
  | over h1 h2 h3 h4 h5 =>
    cases l with
    | nil => exact rput_on0_nil [] v s x w h1 h2 h3 rfl h5 hl hx ht
    | cons y m => exact rput_on0_first (y :: m) v s x w h1 h2 h3 (by simp) (h4 y m rfl) h5 hl hx ht
theorem rdrop_any (l : List Ver) (v : Value) (id : Nat) (w : World) (L : List Ver) (c : Nat) (h : DropC l id L c) (hl : l.length ≤ 900) (ht : Vers w w.heap.size v l) :
    Calls Try.prog 21 #[v, .int .u64 (id : Nat)] w fun e w' => ∃ v', e = .returned (.tuple #[v', .int .i64 (c : Nat)]) ∧ OwnV w.heap.size w' v' L ∧ Q w w' := by
  cases h with
  | chk h1 =>
    refine (rdrop_arg l v id w (.inr ⟨rfl, h1⟩) (by omega) ht).mono ?_
    rintro e w' ⟨rfl, q⟩
    exact ⟨_, rfl, OwnV.nil _ _, q⟩
  | none h1 h2 =>
    refine (rdrop_none l v id w (.inl ⟨rfl, h1⟩) (by rw [wo_none h2]) (by omega) ht).mono ?_
    rintro e w' ⟨rfl, q⟩
    exact ⟨_, rfl, OwnV.nil _ _, q⟩
  | yes h1 h2 =>
    obtain ⟨i, hi, hid⟩ := h2
    refine rdrop_yes l v id w (.inl ⟨rfl, h1⟩) ?_ (by omega) ht
    rw [← hid, wo_cut h1 hi, List.length_append, List.length_take, List.length_drop]
    omega
set_option maxHeartbeats 1000000 in
theorem rdelete_any (l : List Ver) (v : Value) (s : Int) (id : Nat) (tm : Int) (w : World) (L : List Ver) (c : Nat) (h : DelC l s id tm L c) (hl : l.length ≤ 900) (hid : id < 18446744073709551616) (ht1 : -9223372036854775808 ≤ tm) (ht2 : tm ≤ 9223372036854775807) (ht : Vers w w.heap.size v l) :
    Calls Try.prog 15 #[v, .int .i64 s, .int .u64 (id : Nat), .int .i64 tm] w fun e w' => ∃ v', e = .returned (.tuple #[v', .int .i64 (c : Nat)]) ∧ OwnV w.heap.size w' v' L ∧ Q w w' := by
  rcases h with ⟨rfl, h⟩ | ⟨h0, h⟩
  · have C := Lib.hid (rdrop_any l v 0 w L c h hl ht)
    clear h ht
    go_enter Try.func15, Try.ntmps15
    go_wp2_with fail
    refine (C.out).mono ?_
    rintro e w1 ⟨v1, rfl, o1, q1⟩
    go_wp2
    go_ret2
    exact ⟨_, rfl, o1, q1⟩
  · have h00 : (s == 0) = false := by simpa using h0
    by_cases h2 : s = 2
    · rw [if_pos h2] at h
      subst h2
      have C := Lib.hid (rput_any l v 2 _ w L c h hl (markV_ok (by omega) ht1 ht2) ht)
      rw [ver] at C
      simp only [markV] at C
      clear h ht h0
      go_enter Try.func15, Try.ntmps15
      go_wp2_with fail
      refine (C.out).mono ?_
      rintro e w1 ⟨v1, rfl, o1, q1⟩
      go_wp2
      go_ret2
      exact ⟨_, rfl, o1, q1⟩
    · rw [if_neg h2] at h
      have h22 : (s == 2) = false := by simpa using h2
      have C := Lib.hid (rput_any l v s _ w L c h hl (markV_ok hid ht1 ht2) ht)
      rw [ver] at C
      simp only [markV] at C
      clear h ht h0 h2
      go_enter Try.func15, Try.ntmps15
      go_wp2_with fail
      refine (C.out).mono ?_
      rintro e w1 ⟨v1, rfl, o1, q1⟩
      go_wp2
      go_ret2
      exact ⟨_, rfl, o1, q1⟩
end Go.Proofs.Ytflfhigldkdlmaa
