/-
  Contracts of Cut and Few; plain facts on what a span is of octets.
-/
import Derived.Test.YtmekgpnppcponaaSOf
namespace Go.Proofs.Ytmekgpnppcponaa
open Go.ChangeShapes Go.WideShapes Go.ChangeAt Go.RowKit
set_option linter.unusedVariables false

theorem of_yes {f t : Int} {o b : Bool} {n x y : Int} (h : ofP f t o b n = (x, y, 0)) : 0 ≤ x ∧ 1 ≤ y ∧ x + y ≤ n := by
  unfold ofP at h
  split at h
  · simp at h
  · rename_i h1
    have hm : mayP f t o b = true := by
      cases hm : mayP f t o b with
      | true => rfl
      | false => exact absurd (.inl hm) h1
    have hn : 0 ≤ n := by
      have : ¬ n < 0 := fun hn => h1 (.inr hn)
      omega
    rcases may_kinds hm with ⟨rfl, rfl, rfl, a1, a2⟩ | ⟨rfl, rfl, rfl, a1, a2⟩ | ⟨rfl, rfl, a1, a2, a3⟩
    · rw [if_neg (by simp)] at h
      split at h
      · simp at h
      · rw [if_pos (.inl rfl)] at h
        simp at h; omega
    · rw [if_pos rfl] at h
      split at h
      · simp at h
      · split at h <;> simp at h <;> omega
    · rw [if_neg (by simp)] at h
      split at h
      · simp at h
      · split at h <;> simp at h <;> omega
theorem of_no {f t : Int} {o b : Bool} {n x y e : Int} (h : ofP f t o b n = (x, y, e)) (he : e ≠ 0) : x = 0 ∧ y = 0 ∧ (e = 1 ∨ e = 12) := by
  unfold ofP at h
  repeat' split at h
  all_goals simp at h
  all_goals omega

set_option maxHeartbeats 1000000 in
theorem cut_yes (f t : Int) (o b : Bool) (s : ByteArray) (w : World) (hs : s.size ≤ 5000) {i k : Nat} (h : ofP f t o b s.size = ((i : Int), (k : Int), (0 : Int))) :
    Calls Try.prog 20 #[spn f t o b, .string s] w fun E w' => E = .returned (.tuple #[.string (s.extract i (i + k)), .int .i64 0]) ∧ Q w w' := by
  have HQ := Lib.hid (fun o => (Q.refl w).alloc o)
  have hb := of_yes h
  have C := Lib.hid (fun w => of_any f t o b s.size w (by omega) h)
  have h1 : i + k ≤ s.size := by omega
  have h2 : 1 ≤ k := by omega
  clear h hb
  rw [spn] at C ⊢
  go_enter Try.func20, Try.ntmps20
  go_wp2_with fail
  refine (C.out _).mono ?_
  rintro e w1 ⟨rfl, q⟩
  go_wp2
  go_ret2
  exact ⟨rfl, (HQ.out _).trans q⟩
set_option maxHeartbeats 1000000 in
theorem cut_no (f t : Int) (o b : Bool) (s : ByteArray) (w : World) (hs : s.size ≤ 5000) {x y e : Int} (h : ofP f t o b s.size = (x, y, e)) (he : e ≠ 0) :
    Calls Try.prog 20 #[spn f t o b, .string s] w fun E w' => E = .returned (.tuple #[.string ⟨#[]⟩, .int .i64 e]) ∧ Q w w' := by
  have HQ := Lib.hid (fun o => (Q.refl w).alloc o)
  have C := Lib.hid (fun w => of_any f t o b s.size w (by omega) h)
  have hb := of_no h he
  obtain ⟨rfl, rfl, hb⟩ := hb
  have he2 : (e == 0) = false := by simpa using he
  have he3 : e ≤ 12 := by omega
  have he4 : 0 ≤ e := by omega
  clear h hb he
  rw [spn] at C ⊢
  go_enter Try.func20, Try.ntmps20
  go_wp2_with fail
  refine (C.out _).mono ?_
  rintro e w1 ⟨rfl, q⟩
  go_wp2
  go_ret2
  exact ⟨rfl, (HQ.out _).trans q⟩

/-- Few. -/
def few (s : ByteArray) : ByteArray := if 300 < s.size ∧ s.size ≤ 4000 then s.extract 0 300 else if 4100 < s.size then s.extract 0 4100 else s
theorem few_size (s : ByteArray) : (few s).size ≤ 4100 := by
  unfold few; split
  · rw [size_cut _ (by omega)]; omega
  · split
    · rw [size_cut _ (by omega)]; omega
    · omega
set_option maxHeartbeats 1000000 in
theorem few_any (s : ByteArray) (w : World) (hs : s.size ≤ maxLen) :
    Calls Try.prog 10 #[.string s] w fun e w' => e = .returned (.string (few s)) ∧ w = w' := by
  unfold maxLen at hs
  by_cases h1 : 300 < s.size
  · by_cases h2 : s.size ≤ 4000
    · have HF : Hid (few s = s.extract 0 300) := Lib.hid (by rw [few, if_pos ⟨h1, h2⟩])
      go_enter Try.func10, Try.ntmps10
      go_wp2
      go_ret
      exact ⟨ret_str HF.out.symm, rfl⟩
    · have hn : ¬ (300 < s.size ∧ s.size ≤ 4000) := by omega
      by_cases h3 : 4100 < s.size
      · have HF : Hid (few s = s.extract 0 4100) := Lib.hid (by rw [few, if_neg hn, if_pos h3])
        clear hn
        go_enter Try.func10, Try.ntmps10
        go_wp2
        go_ret
        exact ⟨ret_str HF.out.symm, rfl⟩
      · have HF : Hid (few s = s) := Lib.hid (by rw [few, if_neg hn, if_neg h3])
        clear hn
        go_enter Try.func10, Try.ntmps10
        go_wp2
        go_ret
        exact ⟨ret_str HF.out.symm, rfl⟩
  · have HF : Hid (few s = s) := Lib.hid (by rw [few, if_neg (by omega), if_neg (by omega)])
    go_enter Try.func10, Try.ntmps10
    go_wp2
    go_ret
    exact ⟨ret_str HF.out.symm, rfl⟩
end Go.Proofs.Ytmekgpnppcponaa
