/-
  Contract of the law's All: so many blocks of one octet.
-/
import Derived.Test.YtpcanlafbcdmcaaKIter
import Derived.Laws.Cover1
namespace Go.Proofs.Ytpcanlafbcdmcaa
set_option maxRecDepth 100000
open Go.ChangeShapes Go.WideShapes Go.ChangeAt Go.RowKit
set_option linter.unusedVariables false
set_option linter.unusedSimpArgs false
set_option maxRecDepth 100000

def octsB (c n : Nat) : ByteArray := mk (List.replicate (64 * n) c.toUInt8)
theorem octsB_size (c n : Nat) : (octsB c n).size = 64 * n := by rw [octsB, mk_size, List.length_replicate]
theorem byte_append (a b : List UInt8) : Lib.byteCells (a ++ b) = Lib.byteCells a ++ Lib.byteCells b := by simp [Lib.byteCells]
/-- So far l's octets, and noughts. -/
def soFar (l : List UInt8) (j : Nat) : List Value := Lib.byteCells (l.take j) ++ List.replicate (l.length - j) (.int .u8 0)
theorem soFar_zero (l : List UInt8) : soFar l 0 = List.replicate l.length (.int .u8 0) := rfl
theorem soFar_end (l : List UInt8) : soFar l l.length = Lib.byteCells l := by rw [soFar, List.take_length, Nat.sub_self]; simp
theorem cells_take (l : List UInt8) (j : Nat) (h : j ≤ l.length) : (Lib.byteCells (l.take j)).length = j := by
  rw [Lib.byteCells_length, List.length_take]; omega
theorem soFar_at (l : List UInt8) (j : Nat) (h : j < l.length) : (soFar l j)[j]? = some (.int .u8 0) := by
  have hb := cells_take l j (Nat.le_of_lt h)
  rw [soFar, List.getElem?_append_right (by omega), hb, Nat.sub_self, show l.length - j = (l.length - (j + 1)) + 1 by omega, List.replicate_succ]
  rfl
theorem soFar_set (l : List UInt8) (j : Nat) (h : j < l.length) : (soFar l j).set j (.int .u8 (l[j].toNat : Nat)) = soFar l (j + 1) := by
  have hb := cells_take l j (Nat.le_of_lt h)
  rw [soFar, soFar, List.set_append_right _ _ (by omega), hb, Nat.sub_self, show l.length - j = (l.length - (j + 1)) + 1 by omega, List.replicate_succ, List.set_cons_zero, List.take_succ_eq_append_getElem h, byte_append, List.append_assoc]
  rfl
theorem conv_row {base g cap : Nat} {w : World} {l : List UInt8} (h : w.ownsRow base 5 1 (.slice (some ⟨g, 0, none⟩) l.length cap) l.length (Lib.byteCells l)) :
    (convert 45 9 (.slice (some ⟨g, 0, none⟩) l.length cap)).run Try.prog w = .ok (.string (mk l)) w :=
  run_convert_bytes_back (P := Try.prog) w 45 9 5 ⟨g, 0, none⟩ cap l Try.underlying45 Try.underlying5 Try.underlying9 (fun j hj => World.ownsRow.cells (g := g) h rfl j _ (by simp [Lib.byteCells, hj]))

set_option maxHeartbeats 4000000 in
theorem all_any (c n : Nat) (w : World) (hc : c < 256) (h0 : 0 < n) (hn : n ≤ 100) :
    Calls Try.prog 22 #[.int .u8 c, .int .i64 n] w fun e w' => e = .returned (.string (octsB c n)) ∧ Q w w' := by
  obtain ⟨i0, hi, hz0, hz1, hz2⟩ := info_parts info_u8
  obtain ⟨l, hll⟩ : ∃ l, l = List.replicate (64 * n) c.toUInt8 := ⟨_, rfl⟩
  have HOB : Hid (octsB c n = mk l) := Lib.hid (by rw [hll]; rfl)
  have hg0 : ∀ j (h : j < l.length), l[j].toNat = c := fun j h => by
    subst hll
    rw [List.getElem_replicate]
    simp; omega
  obtain ⟨N, hN⟩ : ∃ N, N = 64 * n := ⟨_, rfl⟩
  have hl : l.length = N := by rw [hll, List.length_replicate, hN]
  have hNi : (64 : Int) * (n : Int) = (N : Int) := by omega
  have hN1 : N ≤ 6400 := by omega
  have hN0 : 0 < N := by omega
  have HG := Lib.hid hg0
  clear hll hg0 hN
  go_enter Try.func22, Try.ntmps22
  go_wp2_with (at_make; refine wpList_make_full _ rfl _ _ 45 rfl w.heap.size 5 i0 (.int .u8 0) 1 Try.underlying45 hi hz0 hz1 .i64 .i64 _ _ N rfl rfl rfl rfl (by rw [hz2]; omega) (by unfold maxLen; omega) (Nat.le_refl _) ?_; intro w4 o4 g4; refine Hid.out ?_)
  refine Lib.hid ?_
  have b4 : Below w.heap.size w w4 := (Below.refl _ w).grown g4 (Nat.le_refl _) (by simp)
  rw [Nat.mul_one] at o4
  rw [show (Value.int IntKind.u8 0).cells = #[Value.int IntKind.u8 0] by rfl, toList_madeCells_one] at o4
  have O := Lib.hid o4
  clear o4 g4
  go_wp2_with fail
  go_loopw [6] (fun I wr => ∃ j : Nat, j ≤ N ∧ I = .int .i64 j ∧ Hid (wr.ownsRow w.heap.size 5 1 (.slice (some ⟨w.heap.size, 0, none⟩) N N) N (soFar l j)) ∧ Below w.heap.size w wr) (fun I _ => N - (intOf I).toNat)
  case atStart => exact ⟨0, Nat.zero_le _, rfl, Lib.hid (by rw [soFar_zero, hl]; exact O.out), b4⟩
  case round =>
    obtain ⟨j, hj, rfl, HO, bel⟩ := hrel
    clear O b4
    by_cases hlt : j < N
    · have hjl : j < l.length := by rw [hl]; exact hlt
      have hg := HG.out j hjl
      have c1 : wr.cell? ⟨w.heap.size, j, none⟩ = some (.int .u8 0) := by
        rw [HO.out.cellAt j (by omega)]; exact soFar_at l j hjl
      have f1 := HO.out.frozenAt j
      have S := HO.out.stored j (.int .u8 (l[j].toNat : Nat))
      rw [soFar_set l j hjl, hg] at S
      have S1 := Lib.hid S.1
      have bel2 := Below.setCell bel (p := ⟨w.heap.size, j, none⟩) (Nat.le_refl _) (.int .u8 (c : Nat))
      have hjlt : (j : Int) < (N : Int) := by omega
      clear S hg hjl
      go_wp2_with fail
      go_roundw
      case rel => exact ⟨j + 1, by omega, by go_num, S1, bel2⟩
      case measure => simp [intOf]; omega
    · obtain rfl : j = N := by omega
      have hcv := conv_row (base := w.heap.size) (g := w.heap.size) (cap := j) (w := wr) (l := l) (by rw [← soFar_end, hl]; exact HO.out)
      rw [hl] at hcv
      go_wp2_with fail
      go_ret
      exact ⟨by rw [HOB.out]; rfl, bel⟩
end Go.Proofs.Ytpcanlafbcdmcaa
