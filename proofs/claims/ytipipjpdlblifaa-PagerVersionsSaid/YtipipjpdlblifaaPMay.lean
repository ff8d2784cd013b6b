/-
  Contracts of the program's may, of its closures, of slices.IndexFunc and place.
-/
import Derived.Test.YtipipjpdlblifaaVFind
namespace Go.Proofs.Ytipipjpdlblifaa
open Go.ChangeShapes Go.WideShapes Go.ChangeAt Go.RowKit
set_option linter.unusedVariables false

set_option maxHeartbeats 2000000 in
theorem may_any (v : Ver) (w : World) :
    Calls Try.prog 53 #[ver v] w fun e w' => e = .returned (.bool (mayV v)) ∧ Q w w' := by
  have HF := Lib.hid (show mayV v = (decide (v.id ≤ 281474976710655) && decide (v.data.size ≤ 2000) && (!v.mark || decide (v.data.size = 0)) && decide (0 ≤ v.tm) && decide (v.tm ≤ 1099511627775)) from rfl)
  have HQ := Lib.hid (fun o => (Q.refl w).alloc o)
  obtain ⟨i, d, m, t⟩ := v
  rw [ver]
  simp only at HF ⊢
  by_cases h1 : i ≤ 281474976710655
  · have j1 : ¬ (281474976710655 : Int) < (i : Int) := by omega
    rcases three t with h3 | ⟨h3, h4⟩ | ⟨h3, h4⟩
    · have h3' : t < 0 := by omega
      have HV := Lib.hid (HF.out.trans (by simp [*] : _ = false))
      go_enter Try.func53, Try.ntmps53
      go_wp2
      go_ret
      exact ⟨ret_bool (by rw [HV.out]), HQ.out _⟩
    · have h3' : ¬ t < 0 := by omega
      have h4' : ¬ 1099511627775 < t := by omega
      cases m
      · by_cases h2 : d.size ≤ 2000
        · have j2 : (d.size : Int) ≤ 2000 := by omega
          have HV := Lib.hid (HF.out.trans (by simp [*] : _ = true))
          go_enter Try.func53, Try.ntmps53
          go_wp2
          go_ret
          exact ⟨ret_bool (by rw [HV.out]), HQ.out _⟩
        · have j2 : ¬ (d.size : Int) ≤ 2000 := by omega
          have HV := Lib.hid (HF.out.trans (by simp [*] : _ = false))
          go_enter Try.func53, Try.ntmps53
          go_wp2
          go_ret
          exact ⟨ret_bool (by rw [HV.out]), HQ.out _⟩
      · by_cases hz : d.size = 0
        · have e1 := emp_yes hz
          have e2 := emp_yes' hz
          have HV := Lib.hid (HF.out.trans (by simp [*] : _ = true))
          go_enter Try.func53, Try.ntmps53
          go_wp2
          go_ret
          exact ⟨ret_bool (by rw [HV.out]), HQ.out _⟩
        · have e1 := emp_no (t := d) (by omega)
          have e2 := emp_no' (t := d) (by omega)
          have HV := Lib.hid (HF.out.trans (by simp [*] : _ = false))
          go_enter Try.func53, Try.ntmps53
          go_wp2
          go_ret
          exact ⟨ret_bool (by rw [HV.out]), HQ.out _⟩
    · have h3' : ¬ t < 0 := by omega
      have h4' : 1099511627775 < t := by omega
      have HV := Lib.hid (HF.out.trans (by simp [*] : _ = false))
      go_enter Try.func53, Try.ntmps53
      go_wp2
      go_ret
      exact ⟨ret_bool (by rw [HV.out]), HQ.out _⟩
  · have j1 : (281474976710655 : Int) < (i : Int) := by omega
    have HV := Lib.hid (HF.out.trans (by simp [h1] : _ = false))
    go_enter Try.func53, Try.ntmps53
    go_wp2
    go_ret
    exact ⟨ret_bool (by rw [HV.out]), HQ.out _⟩

end Go.Proofs.Ytipipjpdlblifaa
