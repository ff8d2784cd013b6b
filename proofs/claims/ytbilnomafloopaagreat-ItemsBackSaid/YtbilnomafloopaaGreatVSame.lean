/-
  Contract of the document's Same.
-/
import Derived.Test.YtbilnomafloopaaGreatVLaw
import Derived.Test.YtbilnomafloopaaGreatDee
namespace Go.Proofs.YtbilnomafloopaaGreat
set_option maxRecDepth 100000
open Go.ChangeShapes Go.WideShapes Go.ChangeAt Go.RowKit
set_option linter.unusedVariables false
set_option linter.unusedSimpArgs false

theorem ver_ne {x y : Ver} (h : x ≠ y) : x.id ≠ y.id ∨ (x.id = y.id ∧ x.data ≠ y.data) ∨ (x.id = y.id ∧ x.data = y.data ∧ x.mark ≠ y.mark) ∨ (x.id = y.id ∧ x.data = y.data ∧ x.mark = y.mark ∧ x.tm ≠ y.tm) := by
  obtain ⟨a, b, c, d⟩ := x
  obtain ⟨a', b', c', d'⟩ := y
  simp only [ne_eq, Ver.mk.injEq, not_and] at h ⊢
  by_cases h1 : a = a'
  · by_cases h2 : b = b'
    · by_cases h3 : c = c'
      · exact .inr (.inr (.inr ⟨h1, h2, h3, h h1 h2 h3⟩))
      · exact .inr (.inr (.inl ⟨h1, h2, h3⟩))
    · exact .inr (.inl ⟨h1, h2⟩)
  · exact .inl h1
theorem list_ne {a b : List Ver} {i : Nat} (h : i < a.length) (k : i < b.length) (n : a[i] ≠ b[i]) : a ≠ b := by
  rintro rfl; exact n rfl

/-- sameP: Same's answer. -/
def sameP (a b : List Ver) (A : Bool) : Prop := (A = true ∧ a = b) ∨ (A = false ∧ a ≠ b)
theorem sameP_yes {a b : List Ver} {A : Bool} (h : sameP a b A) (e : a = b) : A = true := by
  rcases h with ⟨h, -⟩ | ⟨-, h⟩
  · exact h
  · exact absurd e h
theorem sameP_no {a b : List Ver} {A : Bool} (h : sameP a b A) (e : a ≠ b) : A = false := by
  rcases h with ⟨-, h⟩ | ⟨h, -⟩
  · exact absurd h e
  · exact h
set_option maxHeartbeats 2000000 in
theorem rsame_any (a b : List Ver) (va vb : Value) (w : World) (R : Bool) (hR : sameP a b R) (hl : a.length ≤ 1000) (hlb : b.length ≤ 1000) (ha : Vers w w.heap.size va a) (hb : Vers w w.heap.size vb b) :
    Calls Tryz.prog 132 #[va, vb] w fun e w' => e = .returned (.bool R) ∧ D w w' := by
  obtain ⟨A, c, rfl, -, -, -, hca⟩ := ha
  obtain ⟨B, c', rfl, -, -, -, hcb⟩ := hb
  have HA := Lib.hid hca
  have HB := Lib.hid hcb
  have HR := Lib.hid hR
  clear hca hcb hR
  by_cases he : a.length = b.length
  · have hen : ((a.length : Int) != (b.length : Int)) = false := by simp [he]
    have HE := Lib.hid he
    clear he
    go_enter Tryz.func132, Tryz.ntmps132
    go_wp2_with fail
    go_loopw [5] (fun I wr => ∃ i : Nat, i ≤ a.length ∧ I = .int .i64 i ∧ D w wr ∧ Hid (a.take i = b.take i)) (fun I _ => a.length - (intOf I).toNat)
    case atStart => exact ⟨0, Nat.zero_le _, rfl, D.refl _, Lib.hid (by simp)⟩
    case round =>
      obtain ⟨i, hil, rfl, d, HT⟩ := hrel
      by_cases hlt : i < a.length
      · have hlb2 : i < b.length := by rw [← HE.out]; exact hlt
        obtain ⟨p, rfl, hp, hat⟩ := HA.out i hlt
        obtain ⟨q, rfl, hq, hbt⟩ := HB.out i hlb2
        obtain ⟨m, rfl⟩ := d
        obtain ⟨c0, c1, c2, c3⟩ := hat
        obtain ⟨d0, d1, d2, d3⟩ := hbt
        have h2 : (i : Int) < (b.length : Int) := by omega
        by_cases hxy : a[i] = b[i]
        · have HT2 : Hid (a.take (i + 1) = b.take (i + 1)) := Lib.hid (by rw [List.take_succ_eq_append_getElem hlt, List.take_succ_eq_append_getElem hlb2, HT.out, hxy])
          rw [← hxy] at d0 d1 d2 d3
          obtain ⟨x, hx⟩ : ∃ x, x = a[i] := ⟨_, rfl⟩
          rw [← hx] at c0 c1 c2 c3 d0 d1 d2 d3
          clear hx hxy
          go_wp2_with fail
          go_region
          go_wp2
          go_roundw
          case rel => exact ⟨i + 1, by omega, by go_num, ⟨m + 1, by simp [Nat.add_comm]⟩, HT2⟩
          case measure => simp [intOf]; omega
        · have HV := Lib.hid (sameP_no HR.out (list_ne hlt hlb2 hxy))
          have hne := ver_ne hxy
          obtain ⟨x, hx⟩ : ∃ x, x = a[i] := ⟨_, rfl⟩
          obtain ⟨y, hy⟩ : ∃ y, y = b[i] := ⟨_, rfl⟩
          rw [← hx] at c0 c1 c2 c3 hne
          rw [← hy] at d0 d1 d2 d3 hne
          clear hx hy hxy
          obtain ⟨xi, xd, xm, xt⟩ := x
          obtain ⟨yi, yd, ym, yt⟩ := y
          simp only at c0 c1 c2 c3 d0 d1 d2 d3 hne
          rcases hne with h | ⟨rfl, h⟩ | ⟨rfl, rfl, h⟩ | ⟨rfl, rfl, rfl, h⟩
          · have h' : ¬ ((xi : Int) = (yi : Int)) := by omega
            clear h
            go_wp2_with fail
            go_region
            go_wp2
            go_ret
            exact ⟨ret_bool (by rw [HV.out]), (D.drewN ⟨m, rfl⟩ 1)⟩
          · have h' : ¬ (xd.toList = yd.toList) := fun e => h (bl_inj (by rw [← toList_bl, ← toList_bl, e]))
            clear h
            go_wp2_with fail
            go_region
            go_wp2
            go_ret
            exact ⟨ret_bool (by rw [HV.out]), (D.drewN ⟨m, rfl⟩ 1)⟩
          · skip
            go_wp2_with fail
            go_region
            go_wp2
            go_ret
            exact ⟨ret_bool (by rw [HV.out]), (D.drewN ⟨m, rfl⟩ 1)⟩
          · skip
            go_wp2_with fail
            go_region
            go_wp2
            go_ret
            exact ⟨ret_bool (by rw [HV.out]), (D.drewN ⟨m, rfl⟩ 1)⟩
      · have HV := Lib.hid (sameP_yes HR.out (by have := HT.out; rw [List.take_of_length_le (by omega), List.take_of_length_le (by have := HE.out; omega)] at this; exact this))
        go_wp2
        go_ret
        exact ⟨ret_bool (by rw [HV.out]), d⟩
  · have HV := Lib.hid (sameP_no HR.out (fun e => he (congrArg List.length e)))
    have hen : ((a.length : Int) != (b.length : Int)) = true := by
      have : ¬ (a.length : Int) = (b.length : Int) := by omega
      simpa using this
    clear he
    go_enter Tryz.func132, Tryz.ntmps132
    go_wp2
    go_ret
    exact ⟨ret_bool (by rw [HV.out]), D.refl _⟩
end Go.Proofs.YtbilnomafloopaaGreat
