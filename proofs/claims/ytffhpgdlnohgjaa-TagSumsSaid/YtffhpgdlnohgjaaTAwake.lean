/-
  Contracts of the statements' Few and awake; how arguments that are slices of tags are opened.
-/
import Derived.Test.YtffhpgdlnohgjaaTMany
import Derived.OpenShut
import Derived.ShutString
import Derived.ChangeOld
import Derived.ChangeSlices
import Derived.Carry
namespace Go.Proofs.Ytffhpgdlnohgjaa
open Go.ChangeShapes Go.WideShapes Go.ChangeAt Go.RowKit
set_option linter.unusedVariables false

/-- Few. -/
def few (s : ByteArray) : ByteArray := if 300 < s.size ∧ s.size ≤ 4000 then s.extract 0 300 else if 4100 < s.size then s.extract 0 4100 else s
theorem few_size (s : ByteArray) : (few s).size ≤ 4100 := by
  unfold few; split
  · rw [size_cut _ (by omega)]; omega
  · split
    · rw [size_cut _ (by omega)]; omega
    · omega
set_option maxHeartbeats 1000000 in
theorem few_any (s : ByteArray) (w : World) (hs : s.size ≤ maxLen) :
    Calls Try.prog 10 #[.string s] w fun e w' => e = .returned (.string (few s)) ∧ w = w' := by
  unfold maxLen at hs
  by_cases h1 : 300 < s.size
  · by_cases h2 : s.size ≤ 4000
    · have HF : Hid (few s = s.extract 0 300) := Lib.hid (by rw [few, if_pos ⟨h1, h2⟩])
      go_enter Try.func10, Try.ntmps10
      go_wp2
      go_ret
      exact ⟨ret_str HF.out.symm, rfl⟩
    · have hn : ¬ (300 < s.size ∧ s.size ≤ 4000) := by omega
      by_cases h3 : 4100 < s.size
      · have HF : Hid (few s = s.extract 0 4100) := Lib.hid (by rw [few, if_neg hn, if_pos h3])
        clear hn
        go_enter Try.func10, Try.ntmps10
        go_wp2
        go_ret
        exact ⟨ret_str HF.out.symm, rfl⟩
      · have HF : Hid (few s = s) := Lib.hid (by rw [few, if_neg hn, if_neg h3])
        clear hn
        go_enter Try.func10, Try.ntmps10
        go_wp2
        go_ret
        exact ⟨ret_str HF.out.symm, rfl⟩
  · have HF : Hid (few s = s) := Lib.hid (by rw [few, if_neg (by omega), if_neg (by omega)])
    go_enter Try.func10, Try.ntmps10
    go_wp2
    go_ret
    exact ⟨ret_str HF.out.symm, rfl⟩

theorem crc9 : crc [49, 50, 51, 52, 53, 54, 55, 56, 57] = 3808858755 := by decide +kernel
theorem hex255 : mk (hexk 8 255) = ⟨#[48, 48, 48, 48, 48, 48, 102, 102]⟩ := by decide +kernel
set_option maxHeartbeats 1000000 in
theorem awake_d (w : World) :
    Calls Try.prog 15 #[] w fun e w' => e = .returned (.bool true) ∧ D w w' := by
  have A1 := Lib.hid fun w => of_any ⟨#[49, 50, 51, 52, 53, 54, 55, 56, 57]⟩ w (by decide)
  have A2 := Lib.hid fun w => of_any ⟨#[]⟩ w (by decide)
  have A3 := Lib.hid fun w => of_any ⟨#[49, 50, 51, 52, 53]⟩ w (by decide)
  have A4 := Lib.hid fun w => more_any (crc [49, 50, 51, 52, 53]) ⟨#[54, 55, 56, 57]⟩ w (crc_lt _) (by decide)
  have A5 := Lib.hid fun w => text_d 255 w (by omega)
  rw [show bl ⟨#[49, 50, 51, 52, 53, 54, 55, 56, 57]⟩ = [49, 50, 51, 52, 53, 54, 55, 56, 57] by rfl, crc9] at A1
  rw [show bl ⟨#[]⟩ = [] by rfl, crc_nil] at A2
  rw [show bl ⟨#[49, 50, 51, 52, 53]⟩ = [49, 50, 51, 52, 53] by rfl] at A3
  rw [show bl ⟨#[54, 55, 56, 57]⟩ = [54, 55, 56, 57] by rfl, more_crc, show ([49, 50, 51, 52, 53] ++ [54, 55, 56, 57] : List UInt8) = [49, 50, 51, 52, 53, 54, 55, 56, 57] by rfl, crc9] at A4
  rw [hex255] at A5
  obtain ⟨k, hk⟩ : ∃ k, k = crc [49, 50, 51, 52, 53] := ⟨_, rfl⟩
  rw [← hk] at A3 A4
  clear hk
  go_enter Try.func15, Try.ntmps15
  go_wp2_with fail
  refine (A1.out _).mono ?_
  rintro e w1 ⟨rfl, rfl⟩
  go_wp2_with fail
  refine (A2.out _).mono ?_
  rintro e w2 ⟨rfl, rfl⟩
  go_wp2_with fail
  refine (A3.out _).mono ?_
  rintro e w3 ⟨rfl, rfl⟩
  go_wp2_with fail
  refine (A4.out _).mono ?_
  rintro e w4 ⟨rfl, rfl⟩
  go_wp2_with fail
  refine (A5.out _).mono ?_
  rintro e w5 ⟨rfl, q⟩
  go_wp2
  go_ret
  exact ⟨rfl, q⟩
theorem awake_any (w : World) :
    Calls Try.prog 15 #[] w fun e w' => e = .returned (.bool true) ∧ Q w w' := toQ (awake_d w)

theorem own : ownKnob Try.prog.godebug = none := by kernel_rfl
theorem laid : laidOutB Try.prog = true := by kernel_rfl
theorem cells_u32 : Try.prog.cellsOf 22 = 1 := by kernel_rfl
theorem wf32 {a : Int} (h : (Lit.int .u32 a).wf = true) : ∃ n : Nat, a = n ∧ n < 4294967296 := by
  have h2 : 0 ≤ a ∧ a ≤ 4294967295 := by simpa [Lit.wf, IntKind.min, IntKind.max, IntKind.signed, IntKind.bits] using h
  exact ⟨a.toNat, by omega, by omega⟩
theorem wf16 {a : Int} (h : (Lit.int .u16 a).wf = true) : ∃ n : Nat, a = n ∧ n < 65536 := by
  have h2 : 0 ≤ a ∧ a ≤ 65535 := by simpa [Lit.wf, IntKind.min, IntKind.max, IntKind.signed, IntKind.bits] using h
  exact ⟨a.toNat, by omega, by omega⟩
theorem open_nums {H : Type} {enc : TypeId × Value → H} {W : World} {b : Nat} {v : Value} {d : DataW H} {p : List MemPlace} (hv : Value.okWide Try.prog W .any b 28 v)
    (h : DataW.Trod enc Try.prog W 0 (fun _ => true) true 28 v d p) : ∃ l : List Nat, Nums W W.heap.size v l ∧ l.length ≤ maxLen := by
  obtain ⟨a0, len, cap, rfl⟩ := okWide_slice Try.underlying28 hv
  obtain ⟨fuel, hf⟩ := h
  rcases open_ints Try.underlying28 Try.underlying22 cells_u32 hf with ⟨hcs, hx⟩ | ⟨a, len', cap', zs, hcs, _, hl, hm, hz, hx, hcell, hws⟩
  · simp [Value.cells] at hcs
    obtain ⟨rfl, rfl, rfl⟩ := hcs
    exact ⟨[], Nums.nil _ _, by simp⟩
  · simp [Value.cells] at hcs
    obtain ⟨rfl, rfl, rfl⟩ := hcs
    simp only [if_true] at hz
    have hlen : ((zs.take len).map Int.toNat).length = len := by rw [List.length_map, List.length_take]; omega
    refine ⟨(zs.take len).map Int.toNat, ⟨some a, cap, by rw [hlen], by rw [hlen]; exact hl, (by simp), fun k hk => ⟨a, rfl, ?_, ?_, ?_⟩⟩, by rw [hlen]; omega⟩
    · have := World.block_lt_of_cell? W _ (hcell k (by omega))
      rw [add_block] at this; exact this
    · obtain ⟨n, e1, e2⟩ := wf32 (hws _ (List.getElem_mem (n := k) (by omega)))
      rw [List.getElem_map, List.getElem_take, e1]; exact e2
    · obtain ⟨n, e1, e2⟩ := wf32 (hws _ (List.getElem_mem (n := k) (by omega)))
      rw [hcell k (by omega), List.getElem_map, List.getElem_take]
      have : k < zs.length := by omega
      rw [List.getD_eq_getElem?_getD, List.getElem?_eq_getElem this, Option.getD_some, e1]
      rfl
end Go.Proofs.Ytffhpgdlnohgjaa
