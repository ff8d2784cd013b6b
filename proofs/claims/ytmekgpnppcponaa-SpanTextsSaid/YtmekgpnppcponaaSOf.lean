/-
  Contracts of Of, the document's Of, and Cut.
-/
import Derived.Test.YtmekgpnppcponaaSMay
namespace Go.Proofs.Ytmekgpnppcponaa
open Go.ChangeShapes Go.WideShapes Go.ChangeAt Go.RowKit
set_option linter.unusedVariables false

/-- What a span is of so many octets: where it begins, how many it has, the error's number. -/
def ofP (f t : Int) (o b : Bool) (n : Int) : Int × Int × Int :=
  if mayP f t o b = false ∨ n < 0 then (0, 0, 1)
  else if b = true then (if t = 0 ∨ n = 0 then (0, 0, 12) else if n ≤ t then (0, n, 0) else (n - t, t, 0))
  else if n ≤ f then (0, 0, 12) else if o = true ∨ n ≤ t then (f, n - f, 0) else (f, t - f + 1, 0)

/-- The three kinds of spans that may be. -/
theorem may_kinds {f t : Int} {o b : Bool} (h : mayP f t o b = true) :
    (o = true ∧ b = false ∧ t = 0 ∧ 0 ≤ f ∧ f ≤ 1099511627775) ∨ (o = false ∧ b = true ∧ f = 0 ∧ 0 ≤ t ∧ t ≤ 1099511627775) ∨
    (o = false ∧ b = false ∧ 0 ≤ f ∧ f ≤ t ∧ t ≤ 1099511627775) := by
  unfold mayP at h
  cases o <;> cases b <;> simp [inP_iff] at h <;> simp <;> omega

/-- A span that lies in a block of its own. -/
def Cells (w : World) (g : Nat) (f t : Int) (o b : Bool) : Prop :=
  w.cell? ⟨g, 0, none⟩ = some (.int .i64 f) ∧ w.cell? ⟨g, 1, none⟩ = some (.int .i64 t) ∧ w.cell? ⟨g, 2, none⟩ = some (.bool o) ∧ w.cell? ⟨g, 3, none⟩ = some (.bool b)
theorem cells_of {w w1 : World} {f t : Int} {o b : Bool} (q : Q (w.alloc (.cells #[.int .i64 f, .int .i64 t, .bool o, .bool b] 23)) w1) : Cells w1 w.heap.size f t o b := by
  refine ⟨?_, ?_, ?_, ?_⟩ <;> exact (Below.cell q (by simp)).trans (by simp [go_sem])

theorem ret3 {a b c a' b' c' : Int} (h1 : a = a') (h2 : b = b') (h3 : c = c') :
    Ending.returned (.tuple #[.int .i64 a, .int .i64 b, .int .i64 c]) = .returned (.tuple #[.int .i64 a', .int .i64 b', .int .i64 c']) := by rw [h1, h2, h3]

set_option maxHeartbeats 1000000 in
theorem of_any (f t : Int) (o b : Bool) (n : Int) (w : World) (hn : n ≤ 9223372036854775807) {x y e : Int} (h : ofP f t o b n = (x, y, e)) :
    Calls Try.prog 18 #[spn f t o b, .int .i64 n] w fun E w' => E = .returned (.tuple #[.int .i64 x, .int .i64 y, .int .i64 e]) ∧ Q w w' := by
  have HQ := Lib.hid (fun o => (Q.refl w).alloc o)
  unfold ofP at h
  have C := Lib.hid (fun w => may_any f t o b w)
  by_cases hm : mayP f t o b = false
  · rw [if_pos (.inl hm)] at h
    rw [hm] at C
    clear hm
    obtain ⟨rfl, rfl, rfl⟩ : 0 = x ∧ 0 = y ∧ 1 = e := by simpa using h
    clear h
    rw [spn] at C ⊢
    go_enter Try.func18, Try.ntmps18
    go_wp2_with fail
    refine (C.out _).mono ?_
    rintro e w1 ⟨rfl, q⟩
    go_wp2
    go_ret3
    exact ⟨ret3 (by omega) (by omega) rfl, ((HQ.out _).trans q)⟩
  · have hm' : mayP f t o b = true := by simpa using hm
    clear hm
    rw [hm'] at C
    by_cases hn0 : n < 0
    · rw [if_pos (.inr hn0)] at h
      clear hm'
      obtain ⟨rfl, rfl, rfl⟩ : 0 = x ∧ 0 = y ∧ 1 = e := by simpa using h
      clear h
      rw [spn] at C ⊢
      go_enter Try.func18, Try.ntmps18
      go_wp2_with fail
      refine (C.out _).mono ?_
      rintro e w1 ⟨rfl, q⟩
      go_wp2
      go_ret3
      exact ⟨ret3 (by omega) (by omega) rfl, ((HQ.out _).trans q)⟩
    · rw [if_neg (by simp [hm']; omega)] at h
      have hn1 : 0 ≤ n := by omega
      clear hn0
      rcases may_kinds hm' with ⟨rfl, rfl, rfl, h1, h2⟩ | ⟨rfl, rfl, rfl, h1, h2⟩ | ⟨rfl, rfl, h1, h2, h3⟩
      · rw [if_neg (by simp)] at h
        clear hm'
        by_cases hf : n ≤ f
        · rw [if_pos hf] at h
          obtain ⟨rfl, rfl, rfl⟩ : 0 = x ∧ 0 = y ∧ 12 = e := by simpa using h
          clear h
          rw [spn] at C ⊢
          go_enter Try.func18, Try.ntmps18
          go_wp2_with fail
          refine (C.out _).mono ?_
          rintro e w1 ⟨rfl, q⟩
          obtain ⟨c0, c1, c2, c3⟩ := cells_of q
          go_wp2
          go_region
          go_wp2
          go_ret3
          exact ⟨ret3 (by omega) (by omega) rfl, ((HQ.out _).trans q).drew⟩
        · rw [if_neg hf, if_pos (.inl rfl)] at h
          have hf' : f < n := by omega
          clear hf
          obtain ⟨rfl, rfl, rfl⟩ : f = x ∧ n - f = y ∧ 0 = e := by simpa using h
          clear h
          rw [spn] at C ⊢
          go_enter Try.func18, Try.ntmps18
          go_wp2_with fail
          refine (C.out _).mono ?_
          rintro e w1 ⟨rfl, q⟩
          obtain ⟨c0, c1, c2, c3⟩ := cells_of q
          go_wp2
          go_region
          go_wp2
          go_ret3
          exact ⟨ret3 (by omega) (by omega) rfl, ((HQ.out _).trans q).drew⟩
      · rw [if_pos rfl] at h
        clear hm'
        by_cases ht : t = 0
        · rw [if_pos (.inl ht)] at h
          subst ht
          obtain ⟨rfl, rfl, rfl⟩ : 0 = x ∧ 0 = y ∧ 12 = e := by simpa using h
          clear h
          rw [spn] at C ⊢
          go_enter Try.func18, Try.ntmps18
          go_wp2_with fail
          refine (C.out _).mono ?_
          rintro e w1 ⟨rfl, q⟩
          obtain ⟨c0, c1, c2, c3⟩ := cells_of q
          go_wp2
          go_region
          go_wp2
          go_ret3
          exact ⟨ret3 (by omega) (by omega) rfl, ((HQ.out _).trans q).drew⟩
        · by_cases hz : n = 0
          · rw [if_pos (.inr hz)] at h
            subst hz
            have ht' : 0 < t := by omega
            have ht2 : (t == 0) = false := by simpa using ht
            clear ht
            obtain ⟨rfl, rfl, rfl⟩ : 0 = x ∧ 0 = y ∧ 12 = e := by simpa using h
            clear h
            rw [spn] at C ⊢
            go_enter Try.func18, Try.ntmps18
            go_wp2_with fail
            refine (C.out _).mono ?_
            rintro e w1 ⟨rfl, q⟩
            obtain ⟨c0, c1, c2, c3⟩ := cells_of q
            go_wp2
            go_region
            go_wp2
            go_ret3
            exact ⟨ret3 (by omega) (by omega) rfl, ((HQ.out _).trans q).drew⟩
          · rw [if_neg (by omega)] at h
            have ht' : 0 < t := by omega
            have ht2 : (t == 0) = false := by simpa using ht
            have hz' : 0 < n := by omega
            have hz2 : (n == 0) = false := by simpa using hz
            clear ht hz
            by_cases hf : n ≤ t
            · rw [if_pos hf] at h
              by_cases hk : n - t < 0
              · have hk2 : n < t := by omega
                clear hf
                obtain ⟨rfl, rfl, rfl⟩ : 0 = x ∧ n = y ∧ 0 = e := by simpa using h
                clear h
                rw [spn] at C ⊢
                go_enter Try.func18, Try.ntmps18
                go_wp2_with fail
                refine (C.out _).mono ?_
                rintro e w1 ⟨rfl, q⟩
                obtain ⟨c0, c1, c2, c3⟩ := cells_of q
                go_wp2
                go_region
                go_wp2
                go_ret3
                exact ⟨ret3 (by omega) (by omega) rfl, ((HQ.out _).trans q).drew⟩
              · obtain rfl : n = t := by omega
                clear hf hk
                obtain ⟨rfl, rfl, rfl⟩ : 0 = x ∧ n = y ∧ 0 = e := by simpa using h
                clear h
                rw [spn] at C ⊢
                go_enter Try.func18, Try.ntmps18
                go_wp2_with fail
                refine (C.out _).mono ?_
                rintro e w1 ⟨rfl, q⟩
                obtain ⟨c0, c1, c2, c3⟩ := cells_of q
                go_wp2
                go_region
                go_wp2
                go_ret3
                exact ⟨ret3 (by omega) (by omega) rfl, ((HQ.out _).trans q).drew⟩
            · rw [if_neg hf] at h
              have hf' : t < n := by omega
              have hk : ¬ (n - t < 0) := by omega
              clear hf
              obtain ⟨rfl, rfl, rfl⟩ : n - t = x ∧ t = y ∧ 0 = e := by simpa using h
              clear h
              rw [spn] at C ⊢
              go_enter Try.func18, Try.ntmps18
              go_wp2_with fail
              refine (C.out _).mono ?_
              rintro e w1 ⟨rfl, q⟩
              obtain ⟨c0, c1, c2, c3⟩ := cells_of q
              go_wp2
              go_region
              go_wp2
              go_ret3
              exact ⟨ret3 (by omega) (by omega) rfl, ((HQ.out _).trans q).drew⟩
      · rw [if_neg (by simp)] at h
        clear hm'
        by_cases hf : n ≤ f
        · rw [if_pos hf] at h
          obtain ⟨rfl, rfl, rfl⟩ : 0 = x ∧ 0 = y ∧ 12 = e := by simpa using h
          clear h
          rw [spn] at C ⊢
          go_enter Try.func18, Try.ntmps18
          go_wp2_with fail
          refine (C.out _).mono ?_
          rintro e w1 ⟨rfl, q⟩
          obtain ⟨c0, c1, c2, c3⟩ := cells_of q
          go_wp2
          go_region
          go_wp2
          go_ret3
          exact ⟨ret3 (by omega) (by omega) rfl, ((HQ.out _).trans q).drew⟩
        · rw [if_neg hf] at h
          have hf' : f < n := by omega
          clear hf
          by_cases ht : n ≤ t
          · rw [if_pos (.inr ht)] at h
            obtain ⟨rfl, rfl, rfl⟩ : f = x ∧ n - f = y ∧ 0 = e := by simpa using h
            clear h
            rw [spn] at C ⊢
            go_enter Try.func18, Try.ntmps18
            go_wp2_with fail
            refine (C.out _).mono ?_
            rintro e w1 ⟨rfl, q⟩
            obtain ⟨c0, c1, c2, c3⟩ := cells_of q
            go_wp2
            go_region
            go_wp2
            go_ret3
            exact ⟨ret3 (by omega) (by omega) rfl, ((HQ.out _).trans q).drew⟩
          · rw [if_neg (by simp; omega)] at h
            have ht' : t < n := by omega
            clear ht
            obtain ⟨rfl, rfl, rfl⟩ : f = x ∧ t - f + 1 = y ∧ 0 = e := by simpa using h
            clear h
            rw [spn] at C ⊢
            go_enter Try.func18, Try.ntmps18
            go_wp2_with fail
            refine (C.out _).mono ?_
            rintro e w1 ⟨rfl, q⟩
            obtain ⟨c0, c1, c2, c3⟩ := cells_of q
            go_wp2
            go_region
            go_wp2
            go_ret3
            exact ⟨ret3 (by omega) (by omega) rfl, ((HQ.out _).trans q).drew⟩
set_option maxHeartbeats 1000000 in
theorem rof_any (f t : Int) (o b : Bool) (n : Int) (w : World) (hn : n ≤ 9223372036854775807) {x y e : Int} (h : ofP f t o b n = (x, y, e)) :
    Calls Try.prog 19 #[spn f t o b, .int .i64 n] w fun E w' => E = .returned (.tuple #[.int .i64 x, .int .i64 y, .int .i64 e]) ∧ Q w w' := by
  have HQ := Lib.hid (fun o => (Q.refl w).alloc o)
  unfold ofP at h
  have C := Lib.hid (fun w => rmay_any f t o b w)
  by_cases hm : mayP f t o b = false
  · rw [if_pos (.inl hm)] at h
    rw [hm] at C
    clear hm
    obtain ⟨rfl, rfl, rfl⟩ : 0 = x ∧ 0 = y ∧ 1 = e := by simpa using h
    clear h
    rw [spn] at C ⊢
    go_enter Try.func19, Try.ntmps19
    go_wp2_with fail
    refine (C.out _).mono ?_
    rintro e w1 ⟨rfl, q⟩
    go_wp2
    go_ret3
    exact ⟨ret3 (by omega) (by omega) rfl, ((HQ.out _).trans q)⟩
  · have hm' : mayP f t o b = true := by simpa using hm
    clear hm
    rw [hm'] at C
    by_cases hn0 : n < 0
    · rw [if_pos (.inr hn0)] at h
      clear hm'
      obtain ⟨rfl, rfl, rfl⟩ : 0 = x ∧ 0 = y ∧ 1 = e := by simpa using h
      clear h
      rw [spn] at C ⊢
      go_enter Try.func19, Try.ntmps19
      go_wp2_with fail
      refine (C.out _).mono ?_
      rintro e w1 ⟨rfl, q⟩
      go_wp2
      go_ret3
      exact ⟨ret3 (by omega) (by omega) rfl, ((HQ.out _).trans q)⟩
    · rw [if_neg (by simp [hm']; omega)] at h
      have hn1 : 0 ≤ n := by omega
      clear hn0
      rcases may_kinds hm' with ⟨rfl, rfl, rfl, h1, h2⟩ | ⟨rfl, rfl, rfl, h1, h2⟩ | ⟨rfl, rfl, h1, h2, h3⟩
      · rw [if_neg (by simp)] at h
        clear hm'
        by_cases hf : n ≤ f
        · rw [if_pos hf] at h
          obtain ⟨rfl, rfl, rfl⟩ : 0 = x ∧ 0 = y ∧ 12 = e := by simpa using h
          clear h
          rw [spn] at C ⊢
          go_enter Try.func19, Try.ntmps19
          go_wp2_with fail
          refine (C.out _).mono ?_
          rintro e w1 ⟨rfl, q⟩
          obtain ⟨c0, c1, c2, c3⟩ := cells_of q
          go_wp2
          go_ret3
          exact ⟨ret3 (by omega) (by omega) rfl, ((HQ.out _).trans q)⟩
        · rw [if_neg hf, if_pos (.inl rfl)] at h
          have hf' : f < n := by omega
          clear hf
          obtain ⟨rfl, rfl, rfl⟩ : f = x ∧ n - f = y ∧ 0 = e := by simpa using h
          clear h
          rw [spn] at C ⊢
          go_enter Try.func19, Try.ntmps19
          go_wp2_with fail
          refine (C.out _).mono ?_
          rintro e w1 ⟨rfl, q⟩
          obtain ⟨c0, c1, c2, c3⟩ := cells_of q
          go_wp2
          go_region
          go_wp2
          go_ret3
          exact ⟨ret3 (by omega) (by omega) rfl, ((HQ.out _).trans q).drew⟩
      · rw [if_pos rfl] at h
        clear hm'
        by_cases ht : t = 0
        · rw [if_pos (.inl ht)] at h
          subst ht
          obtain ⟨rfl, rfl, rfl⟩ : 0 = x ∧ 0 = y ∧ 12 = e := by simpa using h
          clear h
          rw [spn] at C ⊢
          go_enter Try.func19, Try.ntmps19
          go_wp2_with fail
          refine (C.out _).mono ?_
          rintro e w1 ⟨rfl, q⟩
          obtain ⟨c0, c1, c2, c3⟩ := cells_of q
          go_wp2
          go_ret3
          exact ⟨ret3 (by omega) (by omega) rfl, ((HQ.out _).trans q)⟩
        · by_cases hz : n = 0
          · rw [if_pos (.inr hz)] at h
            subst hz
            have ht' : 0 < t := by omega
            have ht2 : (t == 0) = false := by simpa using ht
            clear ht
            obtain ⟨rfl, rfl, rfl⟩ : 0 = x ∧ 0 = y ∧ 12 = e := by simpa using h
            clear h
            rw [spn] at C ⊢
            go_enter Try.func19, Try.ntmps19
            go_wp2_with fail
            refine (C.out _).mono ?_
            rintro e w1 ⟨rfl, q⟩
            obtain ⟨c0, c1, c2, c3⟩ := cells_of q
            go_wp2
            go_ret3
            exact ⟨ret3 (by omega) (by omega) rfl, ((HQ.out _).trans q)⟩
          · rw [if_neg (by omega)] at h
            have ht' : 0 < t := by omega
            have ht2 : (t == 0) = false := by simpa using ht
            have hz' : 0 < n := by omega
            have hz2 : (n == 0) = false := by simpa using hz
            clear ht hz
            by_cases hf : n ≤ t
            · rw [if_pos hf] at h
              by_cases hk : n - t < 0
              · have hk2 : n < t := by omega
                clear hf
                obtain ⟨rfl, rfl, rfl⟩ : 0 = x ∧ n = y ∧ 0 = e := by simpa using h
                clear h
                rw [spn] at C ⊢
                go_enter Try.func19, Try.ntmps19
                go_wp2_with fail
                refine (C.out _).mono ?_
                rintro e w1 ⟨rfl, q⟩
                obtain ⟨c0, c1, c2, c3⟩ := cells_of q
                go_wp2
                go_ret3
                exact ⟨ret3 (by omega) (by omega) rfl, ((HQ.out _).trans q)⟩
              · obtain rfl : n = t := by omega
                clear hf hk
                obtain ⟨rfl, rfl, rfl⟩ : 0 = x ∧ n = y ∧ 0 = e := by simpa using h
                clear h
                rw [spn] at C ⊢
                go_enter Try.func19, Try.ntmps19
                go_wp2_with fail
                refine (C.out _).mono ?_
                rintro e w1 ⟨rfl, q⟩
                obtain ⟨c0, c1, c2, c3⟩ := cells_of q
                go_wp2
                go_ret3
                exact ⟨ret3 (by omega) (by omega) rfl, ((HQ.out _).trans q)⟩
            · rw [if_neg hf] at h
              have hf' : t < n := by omega
              have hk : ¬ (n - t < 0) := by omega
              clear hf
              obtain ⟨rfl, rfl, rfl⟩ : n - t = x ∧ t = y ∧ 0 = e := by simpa using h
              clear h
              rw [spn] at C ⊢
              go_enter Try.func19, Try.ntmps19
              go_wp2_with fail
              refine (C.out _).mono ?_
              rintro e w1 ⟨rfl, q⟩
              obtain ⟨c0, c1, c2, c3⟩ := cells_of q
              go_wp2
              go_region
              go_wp2
              go_ret3
              exact ⟨ret3 (by omega) (by omega) rfl, ((HQ.out _).trans q).drew⟩
      · rw [if_neg (by simp)] at h
        clear hm'
        by_cases hf : n ≤ f
        · rw [if_pos hf] at h
          obtain ⟨rfl, rfl, rfl⟩ : 0 = x ∧ 0 = y ∧ 12 = e := by simpa using h
          clear h
          rw [spn] at C ⊢
          go_enter Try.func19, Try.ntmps19
          go_wp2_with fail
          refine (C.out _).mono ?_
          rintro e w1 ⟨rfl, q⟩
          obtain ⟨c0, c1, c2, c3⟩ := cells_of q
          go_wp2
          go_ret3
          exact ⟨ret3 (by omega) (by omega) rfl, ((HQ.out _).trans q)⟩
        · rw [if_neg hf] at h
          have hf' : f < n := by omega
          clear hf
          by_cases ht : n ≤ t
          · rw [if_pos (.inr ht)] at h
            obtain ⟨rfl, rfl, rfl⟩ : f = x ∧ n - f = y ∧ 0 = e := by simpa using h
            clear h
            rw [spn] at C ⊢
            go_enter Try.func19, Try.ntmps19
            go_wp2_with fail
            refine (C.out _).mono ?_
            rintro e w1 ⟨rfl, q⟩
            obtain ⟨c0, c1, c2, c3⟩ := cells_of q
            go_wp2
            go_region
            go_wp2
            go_ret3
            exact ⟨ret3 (by omega) (by omega) rfl, ((HQ.out _).trans q).drew⟩
          · rw [if_neg (by simp; omega)] at h
            have ht' : t < n := by omega
            clear ht
            obtain ⟨rfl, rfl, rfl⟩ : f = x ∧ t - f + 1 = y ∧ 0 = e := by simpa using h
            clear h
            rw [spn] at C ⊢
            go_enter Try.func19, Try.ntmps19
            go_wp2_with fail
            refine (C.out _).mono ?_
            rintro e w1 ⟨rfl, q⟩
            obtain ⟨c0, c1, c2, c3⟩ := cells_of q
            go_wp2
            go_region
            go_wp2
            go_ret3
            exact ⟨ret3 (by omega) (by omega) rfl, ((HQ.out _).trans q).drew⟩
end Go.Proofs.Ytmekgpnppcponaa
