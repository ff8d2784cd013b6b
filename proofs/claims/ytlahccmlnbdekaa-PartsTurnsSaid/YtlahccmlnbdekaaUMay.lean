/-
  What a part, an ID, a key may be: contracts of mayLay, mayBegin, and of the document's part, number.
-/
import Derived.Test.YtlahccmlnbdekaaUUps
namespace Go.Proofs.Ytlahccmlnbdekaa
open Go.ChangeShapes Go.WideShapes Go.ChangeAt Go.RowKit
set_option linter.unusedVariables false
set_option linter.unusedSimpArgs false

def mayP (p : Prt) : Bool := decide (1 ≤ p.n) && decide (p.n ≤ 1000) && decide (p.data.size ≤ 2000)
theorem mayP_iff {p : Prt} : mayP p = true ↔ 1 ≤ p.n ∧ p.n ≤ 1000 ∧ p.data.size ≤ 2000 := by
  unfold mayP
  simp [and_assoc]
def mayN (id : Nat) : Bool := decide (1 ≤ id) && decide (id ≤ 281474976710655)
theorem mayN_iff {id : Nat} : mayN id = true ↔ 1 ≤ id ∧ id ≤ 281474976710655 := by
  unfold mayN
  simp
set_option maxHeartbeats 1000000 in
theorem mayLay_any (p : Prt) (w : World) :
    Calls Try.prog 31 #[prt p] w fun e w' => e = .returned (.bool (mayP p)) ∧ Q w w' := by
  have HF := Lib.hid (show mayP p = (decide (1 ≤ p.n) && decide (p.n ≤ 1000) && decide (p.data.size ≤ 2000)) from rfl)
  have HQ := Lib.hid (fun o => (Q.refl w).alloc o)
  obtain ⟨n, d⟩ := p
  rw [prt]
  simp only at HF ⊢
  by_cases h1 : 1 ≤ n
  · by_cases h2 : n ≤ 1000
    · by_cases h3 : d.size ≤ 2000
      · have j3 : (d.size : Int) ≤ 2000 := by omega
        go_enter Try.func31, Try.ntmps31
        go_wp2
        go_ret
        exact ⟨ret_bool (by rw [HF.out]; (first | (simp [*]; done) | (simp; omega))), HQ.out _⟩

      · have j3 : ¬ (d.size : Int) ≤ 2000 := by omega
        go_enter Try.func31, Try.ntmps31
        go_wp2
        go_ret
        exact ⟨ret_bool (by rw [HF.out]; (first | (simp [*]; done) | (simp; omega))), HQ.out _⟩

    · go_enter Try.func31, Try.ntmps31
      go_wp2
      go_ret
      exact ⟨ret_bool (by rw [HF.out]; (first | (simp [*]; done) | (simp; omega))), HQ.out _⟩

  · go_enter Try.func31, Try.ntmps31
    go_wp2
    go_ret
    exact ⟨ret_bool (by rw [HF.out]; (first | (simp [*]; done) | (simp; omega))), HQ.out _⟩

set_option maxHeartbeats 1000000 in
theorem rpart_any (p : Prt) (w : World) :
    Calls Try.prog 36 #[prt p] w fun e w' => e = .returned (.bool (mayP p)) ∧ Q w w' := by
  have HF := Lib.hid (show mayP p = (decide (1 ≤ p.n) && decide (p.n ≤ 1000) && decide (p.data.size ≤ 2000)) from rfl)
  have HQ := Lib.hid (fun o => (Q.refl w).alloc o)
  obtain ⟨n, d⟩ := p
  rw [prt]
  simp only at HF ⊢
  by_cases h1 : 1 ≤ n
  · by_cases h2 : n ≤ 1000
    · by_cases h3 : d.size ≤ 2000
      · have j3 : (d.size : Int) ≤ 2000 := by omega
        go_enter Try.func36, Try.ntmps36
        go_wp2
        go_ret
        exact ⟨ret_bool (by rw [HF.out]; (first | (simp [*]; done) | (simp; omega))), HQ.out _⟩

      · have j3 : ¬ (d.size : Int) ≤ 2000 := by omega
        go_enter Try.func36, Try.ntmps36
        go_wp2
        go_ret
        exact ⟨ret_bool (by rw [HF.out]; (first | (simp [*]; done) | (simp; omega))), HQ.out _⟩

    · go_enter Try.func36, Try.ntmps36
      go_wp2
      go_ret
      exact ⟨ret_bool (by rw [HF.out]; (first | (simp [*]; done) | (simp; omega))), HQ.out _⟩

  · go_enter Try.func36, Try.ntmps36
    go_wp2
    go_ret
    exact ⟨ret_bool (by rw [HF.out]; (first | (simp [*]; done) | (simp; omega))), HQ.out _⟩

set_option maxHeartbeats 1000000 in
theorem number_any (id : Nat) (w : World) :
    Calls Try.prog 42 #[.int .u64 (id : Nat)] w fun e w' => e = .returned (.bool (mayN id)) ∧ w = w' := by
  have HF := Lib.hid (show mayN id = (decide (1 ≤ id) && decide (id ≤ 281474976710655)) from rfl)
  by_cases h1 : (1 : Int) ≤ (id : Int)
  · by_cases h2 : (id : Int) ≤ 281474976710655
    · go_enter Try.func42, Try.ntmps42
      go_wp2
      go_ret
      exact ⟨ret_bool (by rw [HF.out]; simp; (try omega)), rfl⟩

    · go_enter Try.func42, Try.ntmps42
      go_wp2
      go_ret
      exact ⟨ret_bool (by rw [HF.out]; simp; (try omega)), rfl⟩

  · go_enter Try.func42, Try.ntmps42
    go_wp2
    go_ret
    exact ⟨ret_bool (by rw [HF.out]; simp; (try omega)), rfl⟩

/-- May an upload have an ID and a key? -/
def mayB (id : Nat) (key : ByteArray) : Bool := mayN id && hasO 1 60 ko key
set_option maxHeartbeats 1000000 in
theorem mayBegin_any (id : Nat) (key : ByteArray) (w : World) (hs : key.size ≤ 1000) :
    Calls Try.prog 41 #[.int .u64 (id : Nat), .string key] w fun e w' => e = .returned (.bool (mayB id key)) ∧ Q w w' := by
  have C := Lib.hid (fun d => key_any key d hs)
  by_cases h1 : (1 : Int) ≤ (id : Int)
  · by_cases h2 : (id : Int) ≤ 281474976710655
    · have HF : Hid (mayB id key = hasO 1 60 ko key) := Lib.hid (by rw [mayB, mayN_iff.2 (by omega)]; rfl)
      obtain ⟨r, hr⟩ : ∃ r, r = hasO 1 60 ko key := ⟨_, rfl⟩
      rw [← hr] at C HF
      clear hr
      go_enter Try.func41, Try.ntmps41
      go_wp2_with fail
      refine (C.out _).mono ?_
      rintro e w1 ⟨rfl, q1⟩
      go_wp2
      go_ret
      exact ⟨ret_bool (by rw [HF.out]), q1⟩
    · have HF : Hid (mayB id key = false) := Lib.hid (by
        have : mayN id = false := by rw [Bool.eq_false_iff]; intro e; have := mayN_iff.1 e; omega
        rw [mayB, this]; rfl)
      go_enter Try.func41, Try.ntmps41
      go_wp2
      go_ret
      exact ⟨ret_bool (by rw [HF.out]), Q.refl _⟩

  · have HF : Hid (mayB id key = false) := Lib.hid (by
      have : mayN id = false := by rw [Bool.eq_false_iff]; intro e; have := mayN_iff.1 e; omega
      rw [mayB, this]; rfl)
    go_enter Try.func41, Try.ntmps41
    go_wp2
    go_ret
    exact ⟨ret_bool (by rw [HF.out]), Q.refl _⟩

end Go.Proofs.Ytlahccmlnbdekaa
