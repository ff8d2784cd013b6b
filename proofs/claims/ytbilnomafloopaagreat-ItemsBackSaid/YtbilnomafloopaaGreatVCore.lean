/-
  Versions: as values, as cells, as slices; what may be.
-/
import Derived.Test.YtbilnomafloopaaGreatCore
namespace Go.Proofs.YtbilnomafloopaaGreat
set_option maxRecDepth 100000
open Go.ChangeShapes Go.WideShapes Go.ChangeAt Go.RowKit
set_option linter.unusedVariables false

/-- A version. -/
structure Ver where
  id : Nat
  data : ByteArray
  mark : Bool
  tm : Int
/-- A version as a value, and as it lies in memory. -/
def ver (v : Ver) : Value := .agg #[.int .u64 (v.id : Nat), .string v.data, .bool v.mark, .int .i64 v.tm]
def vcells (v : Ver) : List Value := [.int .u64 (v.id : Nat), .string v.data, .bool v.mark, .int .i64 v.tm]
/-- May it be? -/
def mayV (v : Ver) : Bool := decide (v.id ≤ 281474976710655) && decide (v.data.size ≤ 2000) && (!v.mark || decide (v.data.size = 0)) && decide (0 ≤ v.tm) && decide (v.tm ≤ 1099511627775)
theorem mayV_iff {v : Ver} : mayV v = true ↔ v.id ≤ 281474976710655 ∧ v.data.size ≤ 2000 ∧ (v.mark = true → v.data.size = 0) ∧ 0 ≤ v.tm ∧ v.tm ≤ 1099511627775 := by
  unfold mayV
  cases v.mark <;> simp [and_assoc]
theorem emp_no {t : ByteArray} (h : 0 < t.size) : (t.toList == []) = false := by
  have : ¬ t.toList = [] := fun e => by have := (nil_text t).1 e; omega
  simpa using this
theorem emp_no' {t : ByteArray} (h : 0 < t.size) : t.toList.isEmpty = false := by
  cases e : t.toList.isEmpty with
  | false => rfl
  | true => have := (nil_text t).1 (List.isEmpty_iff.1 e); omega
theorem emp_yes {t : ByteArray} (h : t.size = 0) : (t.toList == []) = true := by
  rw [(nil_text t).2 h]; rfl
theorem emp_yes' {t : ByteArray} (h : t.size = 0) : t.toList.isEmpty = true := List.isEmpty_iff.2 ((nil_text t).2 h)

theorem three (t : Int) : ¬ 0 ≤ t ∨ (0 ≤ t ∧ t ≤ 1099511627775) ∨ (0 ≤ t ∧ ¬ t ≤ 1099511627775) := by omega
set_option maxHeartbeats 2000000 in
theorem rmay_any (v : Ver) (w : World) :
    Calls Tryz.prog 144 #[ver v] w fun e w' => e = .returned (.bool (mayV v)) ∧ Q w w' := by
  have HF := Lib.hid (show mayV v = (decide (v.id ≤ 281474976710655) && decide (v.data.size ≤ 2000) && (!v.mark || decide (v.data.size = 0)) && decide (0 ≤ v.tm) && decide (v.tm ≤ 1099511627775)) from rfl)
  have HQ := Lib.hid (fun o => (Q.refl w).alloc o)
  obtain ⟨i, d, m, t⟩ := v
  rw [ver]
  simp only at HF ⊢
  by_cases h1 : i ≤ 281474976710655
  · have j1 : (i : Int) ≤ 281474976710655 := by omega
    by_cases h2 : d.size ≤ 2000
    · have j2 : (d.size : Int) ≤ 2000 := by omega
      by_cases hz : d.size = 0
      · have e1 := emp_yes hz
        have e2 := emp_yes' hz
        rcases three t with h3 | ⟨h3, h4⟩ | ⟨h3, h4⟩ <;> cases m
        all_goals
          have HV := Lib.hid (HF.out.trans (by simp [*] : _ = decide (0 ≤ t ∧ t ≤ 1099511627775)))
          go_enter Tryz.func144, Tryz.ntmps144
          go_wp2
          go_ret
          exact ⟨ret_bool (by rw [HV.out]; (try simp [*]); (try omega)), HQ.out _⟩
      · have e1 := emp_no (t := d) (by omega)
        have e2 := emp_no' (t := d) (by omega)
        cases m
        · rcases three t with h3 | ⟨h3, h4⟩ | ⟨h3, h4⟩
          all_goals
            have HV := Lib.hid (HF.out.trans (by simp [*] : _ = decide (0 ≤ t ∧ t ≤ 1099511627775)))
            go_enter Tryz.func144, Tryz.ntmps144
            go_wp2
            go_ret
            exact ⟨ret_bool (by rw [HV.out]; (try simp [*]); (try omega)), HQ.out _⟩
        · have HV := Lib.hid (HF.out.trans (by simp [hz] : _ = false))
          go_enter Tryz.func144, Tryz.ntmps144
          go_wp2
          go_ret
          exact ⟨ret_bool (by rw [HV.out]), HQ.out _⟩
    · have j2 : ¬ (d.size : Int) ≤ 2000 := by omega
      have HV := Lib.hid (HF.out.trans (by simp [h2] : _ = false))
      go_enter Tryz.func144, Tryz.ntmps144
      go_wp2
      go_ret
      exact ⟨ret_bool (by rw [HV.out]; (try simp [*]); (try omega)), HQ.out _⟩
  · have j1 : ¬ (i : Int) ≤ 281474976710655 := by omega
    have HV := Lib.hid (HF.out.trans (by simp [h1] : _ = false))
    go_enter Tryz.func144, Tryz.ntmps144
    go_wp2
    go_ret
    exact ⟨ret_bool (by rw [HV.out]; (try simp [*]); (try omega)), HQ.out _⟩
end Go.Proofs.YtbilnomafloopaaGreat
