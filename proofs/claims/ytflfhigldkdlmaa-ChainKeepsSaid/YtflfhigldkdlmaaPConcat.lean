/-
  Contract of slices.Concat of two chains.
-/
import Derived.Test.YtflfhigldkdlmaaPGrow
namespace Go.Proofs.Ytflfhigldkdlmaa
open Go.ChangeShapes Go.WideShapes Go.ChangeAt Go.RowKit
set_option linter.unusedVariables false

theorem Vers.shape {w : World} {B : Nat} {v : Value} {l : List Ver} (h : Vers w B v l) : ∃ A c, v = .slice A l.length c := by
  obtain ⟨A, c, e, -⟩ := h; exact ⟨A, c, e⟩
set_option maxHeartbeats 4000000 in
theorem concat_any (g : Nat) (v1 v2 : Value) (l m : List Ver) (w : World) (h1 : w.cell? ⟨g, 0, none⟩ = some v1) (h2 : w.cell? ⟨g, 1, none⟩ = some v2) (hg : g < w.heap.size)
    (t1 : Vers w w.heap.size v1 l) (t2 : Vers w w.heap.size v2 m) (hl : l.length ≤ 1000) (hm : m.length ≤ 1000) :
    Calls Try.prog 40 #[.slice (some ⟨g, 0, none⟩) 2 2] w fun e w' => ∃ v', e = .returned v' ∧ OwnV w.heap.size w' v' (l ++ m) ∧ Q w w' := by
  have T1 := Lib.hid t1
  have T2 := Lib.hid t2
  obtain ⟨A1, c1, rfl⟩ := t1.shape
  obtain ⟨A2, c2, rfl⟩ := t2.shape
  clear t1 t2
  obtain ⟨ln, hln⟩ : ∃ n, l.length = n := ⟨_, rfl⟩
  obtain ⟨mn, hmn⟩ : ∃ n, m.length = n := ⟨_, rfl⟩
  have HL := Lib.hid hln
  have HM := Lib.hid hmn
  rw [hln] at h1 T1 hl
  rw [hmn] at h2 T2 hm
  clear hln hmn
  have G : Hid (∀ b, Calls Try.prog 41 #[.slice none 0 0, .int .i64 ((ln : Int) + (mn : Int))] b fun e w' => ∃ v', e = .returned v' ∧ OwnV b.heap.size w' v' [] ∧ Q b w') := Lib.hid (fun b => by
    have := grow_nil (ln + mn) b (by omega)
    rw [Int.natCast_add] at this
    exact this)
  go_enter Try.func40, Try.ntmps40
  go_wp2_with fail
  go_loopw [3, 5, 11] (fun S _ I wr => ∃ k n : Nat, k ≤ 2 ∧ S = .int .i64 n ∧ I = .int .i64 k ∧ n = (if k = 0 then 0 else if k = 1 then ln else ln + mn) ∧ w = wr) (fun _ _ I _ => 2 - (intOf I).toNat)
  case atStart => exact ⟨0, 0, by omega, rfl, rfl, rfl, rfl⟩
  case round =>
    obtain ⟨k, n, hk, rfl, rfl, hn, rfl⟩ := hrel
    rcases (show k = 0 ∨ k = 1 ∨ k = 2 by omega) with rfl | rfl | rfl
    · simp only [if_true] at hn
      subst hn
      go_wp2
      go_roundw
      case rel => exact ⟨1, ln, by omega, by first | rfl | simp, rfl, rfl, by first | trivial | rfl⟩
      case measure => simp [intOf]
    · have hn2 : n = ln := by simpa using hn
      subst hn2
      clear hn
      have hw : wrap64 ((n : Int) + (mn : Int)) = (n : Int) + (mn : Int) := by unfold wrap64; omega
      have hp : ¬ ((n : Int) + (mn : Int)) < 0 := by omega
      go_wp2
      go_roundw
      case rel => exact ⟨2, n + mn, by omega, by go_num, rfl, rfl, by first | trivial | rfl⟩
      case measure => simp [intOf]
    · have hn2 : n = ln + mn := by simpa using hn
      subst hn2
      clear hn
      rw [Int.natCast_add]
      go_wp2_with fail
      refine (G.out _).mono ?_
      rintro e w1 ⟨v', rfl, ho, q1⟩
      go_wp2_with fail
      go_loopw [6, 8, 27] (fun O _ I wr => ∃ k : Nat, k ≤ 2 ∧ I = .int .i64 k ∧ OwnV w.heap.size wr O (if k = 0 then [] else if k = 1 then l else l ++ m) ∧ Q w wr) (fun _ _ I _ => 2 - (intOf I).toNat)
      case atStart => exact ⟨0, by omega, rfl, ho, q1⟩
      case round =>
        obtain ⟨k, hk, rfl, ho, q⟩ := hrel
        clear q1
        have d1 : wr.cell? ⟨g, 0, none⟩ = _ := (q.cell (p := ⟨g, 0, none⟩) hg).trans h1
        have d2 : wr.cell? ⟨g, 1, none⟩ = _ := (q.cell (p := ⟨g, 1, none⟩) hg).trans h2
        rcases (show k = 0 ∨ k = 1 ∨ k = 2 by omega) with rfl | rfl | rfl
        · simp only [if_true] at ho
          have hs := q.size
          have tb := T1.out.below q
          have hll := HL.out
          go_wp2_with (at_builtin; refine wpList_append_vers _ rfl _ _ 64 Try.underlying64 rfl w.heap.size _ _ [] l rfl rfl ho tb hs ?ha ?_; (case ha => (try simp); omega); intro v2 w2 o2 g2; have b2 := ownV_grown q hs ho g2; clear g2)
          go_roundw
          case rel => exact ⟨1, by omega, rfl, by simpa using o2, b2⟩
          case measure => simp [intOf]
        · have ho : OwnV w.heap.size wr u6 l := by simpa using ho
          have hs := q.size
          have tb := T2.out.below q
          have hll := HL.out
          have hmm := HM.out
          go_wp2_with (at_builtin; refine wpList_append_vers _ rfl _ _ 64 Try.underlying64 rfl w.heap.size _ _ l m rfl rfl ho tb hs ?ha ?_; (case ha => (try simp); omega); intro v2 w2 o2 g2; have b2 := ownV_grown q hs ho g2; clear g2)
          go_roundw
          case rel => exact ⟨2, by omega, rfl, by simpa using o2, b2⟩
          case measure => simp [intOf]
        · have ho : OwnV w.heap.size wr u6 (l ++ m) := by simpa using ho
          go_wp2
          go_ret
          exact ⟨_, rfl, ho, q⟩
end Go.Proofs.Ytflfhigldkdlmaa
