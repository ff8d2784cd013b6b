/-
  What may be asked: contracts of mayList, mayPage, and the document's Asked.
-/
import Derived.Test.YtipipjpdlblifaaGMath
import Derived.Test.YtipipjpdlblifaaEPlain
import Derived.Test.YtipipjpdlblifaaECheck
namespace Go.Proofs.Ytipipjpdlblifaa
open Go.ChangeShapes Go.WideShapes Go.ChangeAt Go.RowKit
set_option linter.unusedVariables false
set_option linter.unusedSimpArgs false

set_option maxHeartbeats 1000000 in
theorem mayList_any (l : List Ent) (v : Value) (p : ByteArray) (w : World) (R : Bool) (hR : chkI l R) (hs : Small l) (hp : p.size ≤ 1000) (ht : Ents w w.heap.size v l) :
    Calls Try.prog 26 #[v, .string p] w fun e w' => e = .returned (.bool (R && hasO 0 60 ko p)) ∧ Q w w' := by
  have C := Lib.hid (checkE_any l v w R hR hs ht)
  clear hR ht
  cases R with
  | false =>
    rw [show chkE false = 1 from rfl] at C
    go_enter Try.func26, Try.ntmps26
    go_wp2_with fail
    refine C.out.mono ?_
    rintro e w1 ⟨rfl, q⟩
    go_wp2
    go_ret
    exact ⟨rfl, q⟩
  | true =>
    rw [show chkE true = 0 from rfl] at C
    go_enter Try.func26, Try.ntmps26
    go_wp2_with fail
    refine C.out.mono ?_
    rintro e w1 ⟨rfl, q⟩
    go_wp2_with fail
    refine (pref_any p _ hp).mono ?_
    rintro e w2 ⟨rfl, q2⟩
    go_wp2
    go_ret
    exact ⟨ret_bool (by simp), q.trans q2⟩

/-- May a page stand behind this key, and have so many? -/
def pgO (key : ByteArray) (m : Int) : Bool := (decide (key.size = 0) || hasO 1 60 ko key) && decide (0 ≤ m) && decide (m ≤ 1000)
theorem three' (m : Int) : m < 0 ∨ (0 ≤ m ∧ m ≤ 1000) ∨ (0 ≤ m ∧ 1000 < m) := by omega
set_option maxHeartbeats 1000000 in
theorem mayPage_any (key : ByteArray) (m : Int) (w : World) (hk : key.size ≤ 1000) :
    Calls Try.prog 28 #[.string key, .int .i64 m] w fun e w' => e = .returned (.bool (pgO key m)) ∧ Q w w' := by
  have HF := Lib.hid (show pgO key m = ((decide (key.size = 0) || hasO 1 60 ko key) && decide (0 ≤ m) && decide (m ≤ 1000)) from rfl)
  by_cases a : key.size = 0
  · have hn := is_nil a
    rcases three' m with h | ⟨h1, h2⟩ | ⟨h1, h2⟩
    · go_enter Try.func28, Try.ntmps28
      go_wp2
      go_ret
      exact ⟨ret_bool (by rw [HF.out]; simp [a] <;> omega), Q.refl _⟩
    · go_enter Try.func28, Try.ntmps28
      go_wp2
      go_ret
      exact ⟨ret_bool (by rw [HF.out]; simp [a, h1, h2]), Q.refl _⟩
    · go_enter Try.func28, Try.ntmps28
      go_wp2
      go_ret
      exact ⟨ret_bool (by rw [HF.out]; simp [a, h1] <;> omega), Q.refl _⟩
  · obtain ⟨n1, n2⟩ := ne_nil (s := key) (by omega)
    have C := Lib.hid fun d => key_any key d hk
    cases hk1 : hasO 1 60 ko key with
    | false =>
      rw [hk1] at C
      go_enter Try.func28, Try.ntmps28
      go_wp2_with fail
      refine (C.out _).mono ?_
      rintro e w1 ⟨rfl, q⟩
      go_wp2
      go_ret
      exact ⟨ret_bool (by rw [HF.out]; simp [hk1, a]), q⟩
    | true =>
      rw [hk1] at C
      rcases three' m with h | ⟨h1, h2⟩ | ⟨h1, h2⟩
      · go_enter Try.func28, Try.ntmps28
        go_wp2_with fail
        refine (C.out _).mono ?_
        rintro e w1 ⟨rfl, q⟩
        go_wp2
        go_ret
        exact ⟨ret_bool (by rw [HF.out]; simp [hk1] <;> omega), q⟩
      · go_enter Try.func28, Try.ntmps28
        go_wp2_with fail
        refine (C.out _).mono ?_
        rintro e w1 ⟨rfl, q⟩
        go_wp2
        go_ret
        exact ⟨ret_bool (by rw [HF.out]; simp [hk1, h1, h2]), q⟩
      · go_enter Try.func28, Try.ntmps28
        go_wp2_with fail
        refine (C.out _).mono ?_
        rintro e w1 ⟨rfl, q⟩
        go_wp2
        go_ret
        exact ⟨ret_bool (by rw [HF.out]; simp [hk1, h1] <;> omega), q⟩

set_option maxHeartbeats 2000000 in
theorem asked_any (l : List Ent) (v : Value) (p d key : ByteArray) (m : Int) (w : World) (R : Bool) (hR : chkI l R) (hs : Small l) (hp : p.size ≤ 1000) (hd : d.size ≤ 1000) (hk : key.size ≤ 1000) (ht : Ents w w.heap.size v l) :
    Calls Try.prog 13 #[v, .string p, .string d, .string key, .int .i64 m] w fun e w' => e = .returned (.bool (R && hasO 0 60 ko p && hasO 0 1 ko d && pgO key m)) ∧ Q w w' := by
  have HF := Lib.hid (show pgO key m = ((decide (key.size = 0) || hasO 1 60 ko key) && decide (0 ≤ m) && decide (m ≤ 1000)) from rfl)
  have C := Lib.hid (rmayE_any l v w R hR hs ht)
  have CP := Lib.hid fun d => rpref_any p d hp
  have CD := Lib.hid fun w => rdelim_any d w hd
  have CK := Lib.hid fun d => rkey_any key d hk
  clear hR ht
  have hpp : ∃ P, P = hasO 0 60 ko p := ⟨_, rfl⟩
  have hdd : ∃ D, D = hasO 0 1 ko d := ⟨_, rfl⟩
  have hkk : ∃ K, K = hasO 1 60 ko key := ⟨_, rfl⟩
  obtain ⟨P, hP⟩ := hpp
  obtain ⟨D, hD⟩ := hdd
  obtain ⟨K, hK⟩ := hkk
  rw [← hP] at CP
  rw [← hD] at CD
  rw [← hK] at CK HF
  rw [← hP, ← hD]
  clear hP hD hK
  cases R with
  | false =>
    go_enter Try.func13, Try.ntmps13
    go_wp2_with fail
    refine C.out.mono ?_
    rintro e w1 ⟨rfl, q⟩
    go_wp2
    go_ret
    exact ⟨rfl, q⟩
  | true =>
    cases P with
    | false =>
      go_enter Try.func13, Try.ntmps13
      go_wp2_with fail
      refine C.out.mono ?_
      rintro e w1 ⟨rfl, q⟩
      go_wp2_with fail
      refine (CP.out _).mono ?_
      rintro e w2 ⟨rfl, rfl⟩
      go_wp2
      go_ret
      exact ⟨rfl, q⟩
    | true =>
      cases D with
      | false =>
        go_enter Try.func13, Try.ntmps13
        go_wp2_with fail
        refine C.out.mono ?_
        rintro e w1 ⟨rfl, q⟩
        go_wp2_with fail
        refine (CP.out _).mono ?_
        rintro e w2 ⟨rfl, rfl⟩
        go_wp2_with fail
        refine (CD.out _).mono ?_
        rintro e w3 ⟨rfl, rfl⟩
        go_wp2
        go_ret
        exact ⟨rfl, q⟩
      | true =>
        by_cases a : key.size = 0
        · have hn := is_nil a
          rcases three' m with h | ⟨h1, h2⟩ | ⟨h1, h2⟩
          all_goals
            go_enter Try.func13, Try.ntmps13
            go_wp2_with fail
            refine C.out.mono ?_
            rintro e w1 ⟨rfl, q⟩
            go_wp2_with fail
            refine (CP.out _).mono ?_
            rintro e w2 ⟨rfl, rfl⟩
            go_wp2_with fail
            refine (CD.out _).mono ?_
            rintro e w3 ⟨rfl, rfl⟩
            go_wp2
            go_ret
            refine ⟨ret_bool (by rw [HF.out]; simp [a] <;> (first | omega | simp [*])), q⟩
        · obtain ⟨n1, n2⟩ := ne_nil (s := key) (by omega)
          cases K with
          | false =>
            go_enter Try.func13, Try.ntmps13
            go_wp2_with fail
            refine C.out.mono ?_
            rintro e w1 ⟨rfl, q⟩
            go_wp2_with fail
            refine (CP.out _).mono ?_
            rintro e w2 ⟨rfl, rfl⟩
            go_wp2_with fail
            refine (CD.out _).mono ?_
            rintro e w3 ⟨rfl, rfl⟩
            go_wp2_with fail
            refine (CK.out _).mono ?_
            rintro e w4 ⟨rfl, rfl⟩
            go_wp2
            go_ret
            refine ⟨ret_bool (by rw [HF.out]; simp [a]), q⟩
          | true =>
            rcases three' m with h | ⟨h1, h2⟩ | ⟨h1, h2⟩
            all_goals
              go_enter Try.func13, Try.ntmps13
              go_wp2_with fail
              refine C.out.mono ?_
              rintro e w1 ⟨rfl, q⟩
              go_wp2_with fail
              refine (CP.out _).mono ?_
              rintro e w2 ⟨rfl, rfl⟩
              go_wp2_with fail
              refine (CD.out _).mono ?_
              rintro e w3 ⟨rfl, rfl⟩
              go_wp2_with fail
              refine (CK.out _).mono ?_
              rintro e w4 ⟨rfl, rfl⟩
              go_wp2
              go_ret
              refine ⟨ret_bool (by rw [HF.out]; simp <;> (first | omega | simp [*])), q⟩
end Go.Proofs.Ytipipjpdlblifaa
