/-
  Contract of slices.Equal at items.
-/
import Derived.Test.YtbilnomafloopaaGreatIDiff
namespace Go.Proofs.YtbilnomafloopaaGreat
set_option maxRecDepth 100000
open Go.ChangeShapes Go.WideShapes Go.ChangeAt Go.RowKit
set_option linter.unusedVariables false
set_option linter.unusedSimpArgs false

theorem ieq_ne {x y : Itm} (h : x ≠ y) : (x.n ≠ y.n) ∨ (x.n = y.n ∧ x.val ≠ y.val) := by
  obtain ⟨a, b⟩ := x
  obtain ⟨a', b'⟩ := y
  simp only [ne_eq, Itm.mk.injEq, not_and] at h ⊢
  by_cases h1 : a = a'
  · exact .inr ⟨h1, h h1⟩
  · exact .inl h1
set_option maxHeartbeats 2000000 in
theorem ieq_any (a b : List Itm) (va vb : Value) (w : World) (hl : a.length ≤ 100000) (hlb : b.length ≤ 100000) (ha : Itms w w.heap.size va a) (hb : Itms w w.heap.size vb b) :
    Calls Tryz.prog 37 #[va, vb] w fun e w' => e = .returned (.bool (decide (a = b))) ∧ D w w' := by
  obtain ⟨R, hRe⟩ : ∃ R, R = decide (a = b) := ⟨_, rfl⟩
  rw [← hRe]
  have hR : (R = true ∧ a = b) ∨ (R = false ∧ a ≠ b) := by
    by_cases h : a = b
    · exact .inl ⟨by rw [hRe]; simp [h], h⟩
    · exact .inr ⟨by rw [hRe]; simp [h], h⟩
  clear hRe
  obtain ⟨A, c, rfl, -, -, -, hca⟩ := ha
  obtain ⟨B, c', rfl, -, -, -, hcb⟩ := hb
  have HA := Lib.hid hca
  have HB := Lib.hid hcb
  have HR := Lib.hid hR
  clear hca hcb hR
  by_cases he : a.length = b.length
  · have hen : ((a.length : Int) != (b.length : Int)) = false := by simp [he]
    have HE := Lib.hid he
    clear he
    go_enter Tryz.func37, Tryz.ntmps37
    go_wp2_with fail
    go_loopw [13] (fun I wr => ∃ i : Nat, i ≤ a.length ∧ I = .int .i64 i ∧ D w wr ∧ Hid (a.take i = b.take i)) (fun I _ => a.length - (intOf I).toNat)
    case atStart => exact ⟨0, Nat.zero_le _, rfl, D.refl _, Lib.hid (by simp)⟩
    case round =>
      obtain ⟨i, hil, rfl, d, HT⟩ := hrel
      by_cases hlt : i < a.length
      · have hlb2 : i < b.length := by rw [← HE.out]; exact hlt
        obtain ⟨p, rfl, hp, hat⟩ := HA.out i hlt
        obtain ⟨q, rfl, hq, hbt⟩ := HB.out i hlb2
        obtain ⟨m, rfl⟩ := d
        obtain ⟨c0, c1⟩ := hat
        obtain ⟨d0, d1⟩ := hbt
        have h2 : (i : Int) < (b.length : Int) := by omega
        by_cases hxy : a[i] = b[i]
        · have HT2 : Hid (a.take (i + 1) = b.take (i + 1)) := Lib.hid (by rw [List.take_succ_eq_append_getElem hlt, List.take_succ_eq_append_getElem hlb2, HT.out, hxy])
          rw [← hxy] at d0 d1
          obtain ⟨x, hx⟩ : ∃ x, x = a[i] := ⟨_, rfl⟩
          rw [← hx] at c0 c1 d0 d1
          clear hx hxy
          go_wp2_with fail
          go_region
          go_wp2
          go_roundw
          case rel => exact ⟨i + 1, by omega, by go_num, ⟨m + 1, by simp [Nat.add_comm]⟩, HT2⟩
          case measure => simp [intOf]; omega
        · have HV : Hid (R = false) := Lib.hid (by rcases HR.out with ⟨-, h⟩ | ⟨h, -⟩; exact absurd h (list_neG hlt hlb2 hxy); exact h)
          have hne := ieq_ne hxy
          obtain ⟨x, hx⟩ : ∃ x, x = a[i] := ⟨_, rfl⟩
          obtain ⟨y, hy⟩ : ∃ y, y = b[i] := ⟨_, rfl⟩
          rw [← hx] at c0 c1 hne
          rw [← hy] at d0 d1 hne
          clear hx hy hxy
          obtain ⟨xn, xv⟩ := x
          obtain ⟨yn, yv⟩ := y
          simp only at c0 c1 d0 d1 hne
          rcases hne with h | ⟨rfl, h⟩
          · have h' : ¬ (xn.toList = yn.toList) := fun e => h (bl_inj (by rw [← toList_bl, ← toList_bl, e]))
            clear h
            go_wp2_with fail
            go_region
            go_wp2
            go_ret
            exact ⟨ret_bool (by rw [HV.out]), (D.drewN ⟨m, rfl⟩ 1)⟩
          · have h' : ¬ (xv.toList = yv.toList) := fun e => h (bl_inj (by rw [← toList_bl, ← toList_bl, e]))
            clear h
            go_wp2_with fail
            go_region
            go_wp2
            go_ret
            exact ⟨ret_bool (by rw [HV.out]), (D.drewN ⟨m, rfl⟩ 1)⟩
      · have HV : Hid (R = true) := Lib.hid (by rcases HR.out with ⟨h, -⟩ | ⟨-, h⟩; exact h; exact absurd (by have := HT.out; rwa [List.take_of_length_le (by omega), List.take_of_length_le (by have := HE.out; omega)] at this) h)
        have h2 : ¬ (i : Int) < (a.length : Int) := by omega
        go_wp2
        go_ret
        exact ⟨ret_bool (by rw [HV.out]), d⟩
  · have HV : Hid (R = false) := Lib.hid (by rcases HR.out with ⟨-, h⟩ | ⟨h, -⟩; exact absurd (congrArg List.length h) he; exact h)
    have hen : ((a.length : Int) != (b.length : Int)) = true := by simp; omega
    clear he
    go_enter Tryz.func37, Tryz.ntmps37
    go_wp2
    go_ret
    exact ⟨ret_bool (by rw [HV.out]), D.refl _⟩
end Go.Proofs.YtbilnomafloopaaGreat
