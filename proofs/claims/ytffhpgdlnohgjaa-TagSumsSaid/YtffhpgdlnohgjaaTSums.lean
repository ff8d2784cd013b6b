/-
  Octets by exclusive-or, laid one by one into a row of the call's own.
-/
import Derived.Test.YtffhpgdlnohgjaaTAwake
import Derived.Laws.Cover1
namespace Go.Proofs.Ytffhpgdlnohgjaa
open Go.ChangeShapes Go.WideShapes Go.ChangeAt Go.RowKit
set_option linter.unusedVariables false

theorem xl_get (a b : List UInt8) (h : a.length = b.length) (j : Nat) (hj : j < (xl a b).length) (ha : j < a.length) (hb : j < b.length) : (xl a b)[j] = a[j] ^^^ b[j] := by
  induction a generalizing b j with
  | nil => simp at ha
  | cons x a ih =>
    cases b with
    | nil => simp at hb
    | cons y b =>
      cases j with
      | zero => rfl
      | succ j => exact ih b (by simpa using h) j _ (by simpa using ha) (by simpa using hb)
/-- The octets of three texts, as many as the shortest has, by exclusive-or. -/
def sum3 (n : Nat) (A B C : ByteArray) : List UInt8 := xl (xl ((bl A).take n) ((bl B).take n)) ((bl C).take n)
theorem take_len {A : ByteArray} {n : Nat} (h : n ≤ A.size) : ((bl A).take n).length = n := by rw [List.length_take, bl_length]; omega
theorem sum3_length {n : Nat} {A B C : ByteArray} (ha : n ≤ A.size) (hb : n ≤ B.size) (hc : n ≤ C.size) : (sum3 n A B C).length = n := by
  have h1 := xl_length ((bl A).take n) ((bl B).take n) (by rw [take_len ha, take_len hb])
  rw [sum3, xl_length _ _ (by rw [h1, take_len ha, take_len hc]), h1, take_len ha]
theorem sum3_get {n : Nat} {A B C : ByteArray} (ha : n ≤ A.size) (hb : n ≤ B.size) (hc : n ≤ C.size) {j : Nat} (hj : j < n) (h : j < (sum3 n A B C).length) : (sum3 n A B C)[j] = A[j] ^^^ B[j] ^^^ C[j] := by
  have h1 := xl_length ((bl A).take n) ((bl B).take n) (by rw [take_len ha, take_len hb])
  have e : (sum3 n A B C)[j] = (xl ((bl A).take n) ((bl B).take n))[j]'(by rw [h1, take_len ha]; exact hj) ^^^ ((bl C).take n)[j]'(by rw [take_len hc]; exact hj) :=
    xl_get _ _ (by rw [h1, take_len ha, take_len hc]) j h _ _
  rw [e, xl_get _ _ (by rw [take_len ha, take_len hb]) j _ (by rw [take_len ha]; exact hj) (by rw [take_len hb]; exact hj), List.getElem_take, List.getElem_take, List.getElem_take]
  rfl
theorem sum3_crc {n : Nat} {A B C : ByteArray} (ha : n ≤ A.size) (hb : n ≤ B.size) (hc : n ≤ C.size) : crc (sum3 n A B C) = crc ((bl A).take n) ^^^ crc ((bl B).take n) ^^^ crc ((bl C).take n) :=
  crc_sum _ _ _ (by rw [take_len ha, take_len hb]) (by rw [take_len hb, take_len hc])
/-- So far l's octets, and noughts. -/
def soFar (l : List UInt8) (j : Nat) : List Value := Lib.byteCells (l.take j) ++ List.replicate (l.length - j) (.int .u8 0)
theorem soFar_zero (l : List UInt8) : soFar l 0 = List.replicate l.length (.int .u8 0) := rfl
theorem soFar_end (l : List UInt8) : soFar l l.length = Lib.byteCells l := by rw [soFar, List.take_length, Nat.sub_self]; simp
theorem cells_take (l : List UInt8) (j : Nat) (h : j ≤ l.length) : (Lib.byteCells (l.take j)).length = j := by
  rw [Lib.byteCells_length, List.length_take]; omega
theorem soFar_at (l : List UInt8) (j : Nat) (h : j < l.length) : (soFar l j)[j]? = some (.int .u8 0) := by
  have hb := cells_take l j (Nat.le_of_lt h)
  rw [soFar, List.getElem?_append_right (by omega), hb, Nat.sub_self, show l.length - j = (l.length - (j + 1)) + 1 by omega, List.replicate_succ]
  rfl
theorem soFar_set (l : List UInt8) (j : Nat) (h : j < l.length) : (soFar l j).set j (.int .u8 (l[j].toNat : Nat)) = soFar l (j + 1) := by
  have hb := cells_take l j (Nat.le_of_lt h)
  rw [soFar, soFar, List.set_append_right _ _ (by omega), hb, Nat.sub_self, show l.length - j = (l.length - (j + 1)) + 1 by omega, List.replicate_succ, List.set_cons_zero, List.take_succ_eq_append_getElem h, byte_append, List.append_assoc]
  rfl
theorem conv_row {base g cap : Nat} {w : World} {l : List UInt8} (h : w.ownsRow base 5 1 (.slice (some ⟨g, 0, none⟩) l.length cap) l.length (Lib.byteCells l)) :
    (convert 45 9 (.slice (some ⟨g, 0, none⟩) l.length cap)).run Try.prog w = .ok (.string (mk l)) w :=
  run_convert_bytes_back (P := Try.prog) w 45 9 5 ⟨g, 0, none⟩ cap l Try.underlying45 Try.underlying5 Try.underlying9 (fun j hj => World.ownsRow.cells (g := g) h rfl j _ (by simp [Lib.byteCells, hj]))
theorem min_any (w : World) (x y z : Int) (n : Nat) (h : (n : Int) = min (min x y) z) : (Builtin.min_ #[3, 3, 3] 3 #[.int .i64 x, .int .i64 y, .int .i64 z]).run Try.prog w = .ok (.int .i64 (n : Nat)) w := by
  rw [run_min_int3]
  congr 2
  split <;> split <;> omega
end Go.Proofs.Ytffhpgdlnohgjaa
