/-
  Pieces: do they rise, and their tags: contracts.
-/
import Derived.Test.YtlahccmlnbdekaaUPart
import Derived.Test.YtlahccmlnbdekaaUNums
namespace Go.Proofs.Ytlahccmlnbdekaa
open Go.ChangeShapes Go.WideShapes Go.ChangeAt Go.RowKit
set_option linter.unusedVariables false
set_option linter.unusedSimpArgs false
set_option maxRecDepth 100000

/-- Pieces rise by their numbers. -/
def riseP (l : List Pce) : Prop := ∀ i (h : i + 1 < l.length), (l[i]'(by omega)).n < l[i + 1].n
theorem riseP_lt {l : List Pce} (h : riseP l) (i j : Nat) (hij : i < j) (hj : j < l.length) : (l[i]'(by omega)).n < l[j].n := by
  obtain ⟨d, rfl⟩ : ∃ d, j = i + d + 1 := ⟨j - i - 1, by omega⟩
  induction d with
  | zero => exact h i hj
  | succ d ih => exact Int.lt_trans (ih (by omega) (by omega)) (h (i + d + 1) hj)
set_option maxHeartbeats 4000000 in
theorem rise_any (l : List Pce) (v : Value) (w : World) (R : Bool) (hR : Chk (riseP l) R) (h1 : 1 ≤ l.length) (hl : l.length ≤ 1000) (ht : Pces w w.heap.size v l) :
    Calls Try.prog 47 #[v] w fun e w' => e = .returned (.bool R) ∧ D w w' := by
  have HT := Lib.hid ht
  have HR := Lib.hid hR
  obtain ⟨A, c, rfl⟩ := ht.form
  obtain ⟨N, hn⟩ : ∃ N, l.length = N := ⟨_, rfl⟩
  rw [hn] at HT hl h1 ⊢
  have HN := Lib.hid hn
  clear ht hR hn
  go_enter Try.func47, Try.ntmps47
  go_wp2_with fail
  go_loopw [3, 7] (fun _ I wr => ∃ i : Nat, i + 1 ≤ N ∧ I = .int .i64 i ∧ D w wr ∧ Hid (∀ j (hj : j < i) (h : j + 1 < l.length), (l[j]'(by omega)).n < l[j + 1].n)) (fun _ I _ => N - (intOf I).toNat)
  case atStart => exact ⟨0, by omega, rfl, D.refl _, Lib.hid (fun j h => by omega)⟩
  case round =>
    obtain ⟨i, hil, rfl, d, HK⟩ := hrel
    by_cases hlt : i + 1 < N
    · have hltL : i + 1 < l.length := by have := HN.out; omega
      obtain ⟨a, c', hv, ha, -, hat⟩ := HT.out.pick i (by omega)
      obtain ⟨a', c'', hv', ha', -, hat'⟩ := HT.out.pick (i + 1) hltL
      injection hv with e1 e2 e3
      subst e1 e3
      injection hv' with f1 f2 f3
      injection f1 with f1
      subst f1
      obtain ⟨m, rfl⟩ := d
      obtain ⟨c0, -⟩ := hat w (Q.refl w)
      obtain ⟨d0, -⟩ := hat' w (Q.refl w)
      have hilt : (i : Int) < (N : Int) - 1 := by omega
      have hi1 : (i : Int) < (N : Int) := by omega
      have hi2 : (i : Int) + 1 < (N : Int) := by omega
      have hi3 : ((i + 1 : Nat) : Int) = (i : Int) + 1 := by omega
      have YES : (l[i]'(by omega)).n < l[i + 1].n → ∀ j (hj : j < i + 1) (h : j + 1 < l.length), (l[j]'(by omega)).n < l[j + 1].n := fun k j hj h => by
        by_cases e : j = i
        · subst e; exact k
        · exact HK.out j (by omega) h
      have NO : ¬ (l[i]'(by omega)).n < l[i + 1].n → R = false := fun k => HR.out.no fun h => k (h i hltL)
      obtain ⟨x, hx⟩ : ∃ x, x = (l[i]'(by omega)).n := ⟨_, rfl⟩
      obtain ⟨y, hy⟩ : ∃ y, y = l[i + 1].n := ⟨_, rfl⟩
      rw [← hx] at c0 YES NO
      rw [← hy] at d0 YES NO
      clear hat hat' hx hy e2 f2 f3
      obtain ⟨j, hj⟩ : ∃ j, j = i + 1 := ⟨_, rfl⟩
      rw [← hj] at d0 hi3 hlt
      have hjj : (i : Int) + 1 = (j : Int) := by omega
      by_cases hxy : x < y
      · have HK2 := Lib.hid (YES hxy)
        have hge : ¬ x ≥ y := by omega
        have HJ := Lib.hid hj
        clear YES NO hj hi3
        go_wp2_with fail
        go_region
        go_wp2
        go_roundw
        case rel => exact ⟨i + 1, by have := HJ.out; omega, by go_num, ⟨m + 1, by simp [Nat.add_comm]⟩, HK2⟩
        case measure => simp [intOf]; omega
      · have HV := Lib.hid (NO hxy)
        have hge : x ≥ y := by omega
        clear YES NO hj hi3
        go_wp2_with fail
        go_region
        go_wp2
        go_ret
        exact ⟨ret_bool (by rw [HV.out]), (D.drewN ⟨m, rfl⟩ 1)⟩
    · have HV := Lib.hid (HR.out.yes fun j h => HK.out j (by have := HN.out; omega) h)
      have hilt : ¬ (i : Int) < (N : Int) - 1 := by omega
      go_wp2
      go_ret
      exact ⟨ret_bool (by rw [HV.out]), d⟩

theorem OwnN.form {base : Nat} {w : World} {v : Value} {l : List Nat} (h : OwnN base w v l) : ∃ A c, v = .slice A l.length c := by
  rcases h.2 with ⟨e, h0⟩ | ⟨g, cap, cur, e, _⟩
  · exact ⟨none, 0, by rw [e, h0]⟩
  · exact ⟨_, _, e⟩
set_option maxHeartbeats 4000000 in
theorem tags_any (l : List Pce) (v : Value) (w : World) (hl : l.length ≤ 1000) (ht : Pces w w.heap.size v l) :
    Calls Try.prog 53 #[v] w fun e w' => ∃ v', e = .returned v' ∧ OwnN w.heap.size w' v' (l.map (·.tag)) ∧ Q w w' := by
  obtain ⟨i0, hi, hz0, hz1, hz2⟩ := info_parts info_u32
  have HT := Lib.hid ht
  obtain ⟨A, c, rfl⟩ := ht.form
  obtain ⟨N, hn⟩ : ∃ N, l.length = N := ⟨_, rfl⟩
  rw [hn] at HT hl ⊢
  have HN := Lib.hid hn
  clear ht hn
  go_enter Try.func53, Try.ntmps53
  go_wp2_with fail
  go_loopw [3, 5, 8] (fun O _ I wr => ∃ (i : Nat) (M : List Nat) (A5 : Option Addr) (n5 c5 : Nat), O = .slice A5 n5 c5 ∧ i ≤ N ∧ I = .int .i64 i ∧ M.length = i ∧ OwnN w.heap.size wr O M ∧ Q w wr ∧ Hid (M = (l.take i).map (·.tag))) (fun _ _ I _ => N - (intOf I).toNat)
  case atStart => exact ⟨0, [], none, 0, 0, rfl, Nat.zero_le _, rfl, rfl, World.ownsRow_nil _ _ _ _, Q.refl _, Lib.hid (by simp)⟩
  case round =>
    obtain ⟨i, M, A5, n5, c5, rfl, hil, rfl, hM, o1, q, HM⟩ := hrel
    by_cases hlt : i < N
    · have hltL : i < l.length := by have := HN.out; omega
      obtain ⟨a, c', hv, ha, -, hat⟩ := HT.out.pick i hltL
      injection hv with e1 e2 e3
      subst e1 e3
      obtain ⟨c0, c1⟩ := hat _ q
      have hilt : (i : Int) < (N : Int) := by omega
      have HX : Hid (M ++ [l[i].tag] = (l.take (i + 1)).map (·.tag)) := Lib.hid (by rw [HM.out, List.take_succ_eq_append_getElem hltL, List.map_append]; rfl)
      obtain ⟨x, hx⟩ : ∃ x, x = l[i] := ⟨_, rfl⟩
      rw [← hx] at c0 c1 HX
      clear hat hx e2
      obtain ⟨xn, xt⟩ := x
      simp only at c0 c1 HX
      have o2 : OwnN w.heap.size (wr.alloc (.cells #[.int .i64 xn, .int .u32 (xt : Nat)] 65)) _ M := World.ownsRow.alloc o1 _
      have q2 := q.alloc (.cells #[.int .i64 xn, .int .u32 (xt : Nat)] 65)
      have b0 := q.size
      have CO : ∀ j u, (u32s [xt])[j]? = some u → ((wr.alloc (.cells #[.int .i64 xn, .int .u32 (xt : Nat)] 65)).alloc (.cells #[.int .u32 (xt : Nat)] 28)).cell? ((⟨wr.heap.size + 1, 0, none⟩ : Addr).add j) = some u := by
        have := cell_one (wr.alloc (.cells #[.int .i64 xn, .int .u32 (xt : Nat)] 65)) (.int .u32 (xt : Nat)) 28
        rw [World.size_alloc] at this; exact this
      go_wp2_with (at_builtin; refine wpList_append_own _ rfl _ _ 88 rfl w.heap.size 28 i0 (.int .u32 0) 1 4 Try.underlying88 hi hz0 hz1 hz2 rfl (by decide) _ _ _ rfl (World.ownsRow.alloc o2 _) ⟨_, 0, none⟩ 1 1 (u32s [xt]) rfl rfl CO (u32s_one _) (by unfold maxLen; first | omega | (simp; try omega)) (by first | omega | (simp; try omega)) (by first | omega | (simp; try omega)) ?_; intro v3 w3 g3 g4 _; have r2 : OwnN w.heap.size w3 v3 (M ++ [xt]) := OwnN.onto (L := M) (M := [xt]) g3 rfl; have b2 := grown_on (Below.alloc q2 (by first | omega | (simp; try omega)) _) (by first | omega | (simp; try omega)) (World.ownsRow.alloc o2 _) g4; clear g3 g4)
      obtain ⟨A6, c6, rfl⟩ := r2.form
      go_roundw
      case rel => exact ⟨i + 1, _, _, _, _, rfl, by omega, by go_num, by simp [hM], r2, b2, HX⟩
      case measure => simp [intOf]; omega
    · have HV : Hid (M = l.map (·.tag)) := Lib.hid (by have := HM.out; rw [List.take_of_length_le (by have := HN.out; omega)] at this; exact this)
      have hilt : ¬ (i : Int) < (N : Int) := by omega
      go_wp2
      go_ret
      exact ⟨_, rfl, by rw [← HV.out]; exact o1, q⟩
end Go.Proofs.Ytlahccmlnbdekaa
