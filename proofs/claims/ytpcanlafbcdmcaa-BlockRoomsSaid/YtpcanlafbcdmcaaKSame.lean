/-
  Contract of the document's Same of texts.
-/
import Derived.Test.YtpcanlafbcdmcaaKTcs
import Derived.RegionTactic
namespace Go.Proofs.Ytpcanlafbcdmcaa
set_option maxRecDepth 100000
open Go.ChangeShapes Go.WideShapes Go.ChangeAt Go.RowKit
set_option linter.unusedVariables false
set_option linter.unusedSimpArgs false

def SameTo (a b : List ByteArray) (k : Nat) : Prop := a.take k = b.take k
theorem same_step {a b : List ByteArray} {k : Nat} (ha : k < a.length) (hb : k < b.length) (h : SameTo a b k) (e : a[k] = b[k]) : SameTo a b (k + 1) := by
  unfold SameTo at h ⊢
  rw [List.take_succ_eq_append_getElem ha, List.take_succ_eq_append_getElem hb, h, e]
theorem same_end {a b : List ByteArray} (h : a.length = b.length) (q : SameTo a b a.length) : decide (a = b) = true := by
  unfold SameTo at q
  rw [List.take_length] at q
  conv at q => rhs; rw [h, List.take_length]
  simp [q]
theorem same_not {a b : List ByteArray} {k : Nat} (ha : k < a.length) (hb : k < b.length) (e : ¬ a[k] = b[k]) : decide (a = b) = false := by
  have : ¬ a = b := by rintro rfl; exact e rfl
  simp [this]

set_option maxHeartbeats 1000000 in
theorem rsame_any (a b : List ByteArray) (va vb : Value) (w : World) (hl : a.length ≤ 1000000) (hl2 : b.length ≤ 1000000) (ha : Txts w w.heap.size va a) (hb : Txts w w.heap.size vb b) :
    Calls Try.prog 18 #[va, vb] w fun e w' => e = .returned (.bool (decide (a = b))) ∧ Q w w' := by
  obtain ⟨A, c, rfl, hca⟩ := ha
  obtain ⟨B, d, rfl, hcb⟩ := hb
  have HA := Lib.hid hca; have HB := Lib.hid hcb
  clear hca hcb
  by_cases hlen : a.length = b.length
  · have HL := Lib.hid hlen
    obtain ⟨n, hn⟩ : ∃ n, n = a.length := ⟨_, rfl⟩
    have hm : n = b.length := hn.trans hlen
    rw [← hn] at hl
    rw [← hm] at hl2
    rw [← hn, ← hm]
    have HN := Lib.hid hn; have HM := Lib.hid hm
    clear hn hm hlen
    go_enter Try.func18, Try.ntmps18
    go_wp2_with fail
    go_loopw [5] (fun i wr => ∃ k : Nat, k ≤ n ∧ i = .int .i64 k ∧ Hid (SameTo a b k) ∧ Q w wr) (fun i _ => n - (intOf i).toNat)
    case atStart => exact ⟨0, Nat.zero_le _, rfl, Lib.hid (by simp [SameTo]), Q.refl _⟩
    case round =>
      obtain ⟨k, hk, rfl, HS, q⟩ := hrel
      by_cases hlt : k < n
      · have pa : k < a.length := by rw [← HN.out]; exact hlt
        have pb : k < b.length := by rw [← HM.out]; exact hlt
        obtain ⟨x, rfl, hx1, hx2⟩ := HA.out k pa
        obtain ⟨y, rfl, hy1, hy2⟩ := HB.out k pb
        have cx := (Below.cell q (p := x.add k) (by rw [add_block]; exact hx1)).trans hx2
        have cy := (Below.cell q (p := y.add k) (by rw [add_block]; exact hy1)).trans hy2
        clear hx2 hy2
        obtain ⟨s, hs⟩ : ∃ s, s = a[k] := ⟨_, rfl⟩
        obtain ⟨t, ht⟩ : ∃ t, t = b[k] := ⟨_, rfl⟩
        rw [← hs] at cx
        rw [← ht] at cy
        have H1 := Lib.hid hs; have H2 := Lib.hid ht
        clear hs ht
        have he := eq_texts s t
        by_cases hst : s = t
        · have h1 : (s.toList == t.toList) = true := by rw [he]; simpa using hst
          have HE := Lib.hid hst
          clear he hst
          go_wp2_with fail
          go_region
          go_wp2
          go_roundw
          case rel => exact ⟨k + 1, by omega, by go_num, Lib.hid (same_step pa pb HS.out (by rw [← H1.out, ← H2.out]; exact HE.out)), q.drew⟩
          case measure => simp [intOf]; omega
        · have h1 : (s.toList == t.toList) = false := by rw [he]; simpa using hst
          clear he
          have HV := Lib.hid (same_not pa pb (by rw [← H1.out, ← H2.out]; exact hst))
          go_wp2_with fail
          go_region
          go_wp2
          go_ret
          exact ⟨by rw [HV.out]; rfl, q.drew⟩
      · obtain rfl : k = n := by omega
        have HV := Lib.hid (same_end HL.out (by rw [← HN.out]; exact HS.out))
        go_wp2
        go_ret
        exact ⟨by rw [HV.out]; rfl, q⟩
  · have HV : Hid (decide (a = b) = false) := Lib.hid (by
      have : ¬ a = b := by rintro rfl; exact hlen rfl
      simp [this])
    go_enter Try.func18, Try.ntmps18
    go_wp2
    go_ret
    exact ⟨by rw [HV.out]; rfl, Q.refl _⟩


end Go.Proofs.Ytpcanlafbcdmcaa
