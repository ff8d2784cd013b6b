/-
  Contract of the document's Many.
-/
import Derived.Test.YtlahccmlnbdekaaTMany
import Derived.Test.YtlahccmlnbdekaaTRMore
namespace Go.Proofs.Ytlahccmlnbdekaa
open Go.ChangeShapes Go.WideShapes Go.ChangeAt Go.RowKit
set_option linter.unusedVariables false

/-- string of a slice of four octets. -/
theorem conv4 (W : World) (b m cap : Nat) (hm : m < 4294967296) (h0 : W.cell? ⟨b, 0, none⟩ = some (.int .u8 ((m : Int) / 16777216))) (h1 : W.cell? ⟨b, 1, none⟩ = some (.int .u8 ((m : Int) / 65536 % 256)))
    (h2 : W.cell? ⟨b, 2, none⟩ = some (.int .u8 ((m : Int) / 256 % 256))) (h3 : W.cell? ⟨b, 3, none⟩ = some (.int .u8 ((m : Int) % 256))) :
    (convert 100 9 (.slice (some ⟨b, 0, none⟩) 4 cap)).run Try.prog W = .ok (.string (mk (oc4 m))) W := by
  have := run_convert_bytes_back (P := Try.prog) W 100 9 5 ⟨b, 0, none⟩ cap (oc4 m) Try.underlying100 Try.underlying5 Try.underlying9 (by
    intro j hj
    have e0 : (((m / 16777216).toUInt8).toNat : Int) = (m : Int) / 16777216 := by rw [Lib.toUInt8_toNat (by omega)]; omega
    have e1 : (((m / 65536 % 256).toUInt8).toNat : Int) = (m : Int) / 65536 % 256 := by rw [Lib.toUInt8_toNat (by omega)]; omega
    have e2 : (((m / 256 % 256).toUInt8).toNat : Int) = (m : Int) / 256 % 256 := by rw [Lib.toUInt8_toNat (by omega)]; omega
    have e3 : (((m % 256).toUInt8).toNat : Int) = (m : Int) % 256 := by rw [Lib.toUInt8_toNat (by omega)]; omega
    match j, hj with
    | 0, _ => show W.cell? ⟨b, 0, none⟩ = some (.int .u8 (((m / 16777216).toUInt8).toNat : Int)); rw [e0]; exact h0
    | 1, _ => show W.cell? ⟨b, 1, none⟩ = some (.int .u8 (((m / 65536 % 256).toUInt8).toNat : Int)); rw [e1]; exact h1
    | 2, _ => show W.cell? ⟨b, 2, none⟩ = some (.int .u8 (((m / 256 % 256).toUInt8).toNat : Int)); rw [e2]; exact h2
    | 3, _ => show W.cell? ⟨b, 3, none⟩ = some (.int .u8 (((m % 256).toUInt8).toNat : Int)); rw [e3]; exact h3
    | k + 4, h => exact absurd h (by rw [oc4_length]; omega))
  exact this

set_option maxHeartbeats 1000000 in
theorem rmany_any (l : List Nat) (v : Value) (w : World) (h1 : 1 ≤ l.length) (h2 : l.length ≤ 100) (ht : Nums w w.heap.size v l) :
    Calls Try.prog 54 #[v] w fun e w' => e = .returned (.string (mk (manyP l))) ∧ Q w w' := by
  obtain ⟨A, c, rfl, -, -, hcells⟩ := ht
  have HC := Lib.hid hcells
  clear hcells
  go_enter Try.func54, Try.ntmps54
  go_wp2_with fail
  go_loopw [3, 4] (fun S i wr => ∃ (j : Nat) (t : ByteArray), j ≤ l.length ∧ i = .int .i64 j ∧ S = .string t ∧ t.size ≤ 400 ∧ Hid (t = mk ((l.take j).flatMap oc4)) ∧ Q w wr) (fun _ i _ => l.length - (intOf i).toNat)
  case atStart => exact ⟨0, ⟨#[]⟩, Nat.zero_le _, rfl, rfl, by decide, Lib.hid rfl, Q.refl _⟩
  case round =>
    obtain ⟨j, t, hj, rfl, rfl, ht, HT, q⟩ := hrel
    by_cases hlt : j < l.length
    · obtain ⟨a, rfl, ha, hm, hcell⟩ := HC.out j hlt
      have hcell' := (q.cell (p := a.add j) (by rw [add_block]; exact ha)).trans hcell
      clear hcell
      obtain ⟨m, hmj⟩ : ∃ m, m = l[j] := ⟨_, rfl⟩
      rw [← hmj] at hcell' hm
      have HM : Hid (t ++ mk (oc4 m) = mk ((l.take (j + 1)).flatMap oc4)) := Lib.hid (by rw [HT.out, mk_append, hmj, take4 l j hlt])
      have h4 := fun W => conv4 W wr.heap.size m 4 hm
      obtain ⟨d, hd⟩ : ∃ d, d = mk (oc4 m) := ⟨_, rfl⟩
      rw [← hd] at h4 HM
      have hd1 : d.size = 4 := by rw [hd]; rfl
      have HZ : Hid ((t ++ d).size ≤ 400) := Lib.hid (by rw [HM.out, mk_size, flat4_length, List.length_take]; omega)
      clear hd hmj
      go_wp2
      go_roundw
      case rel => exact ⟨j + 1, _, by omega, by go_num, rfl, HZ.out, HM, q.alloc _⟩
      case measure => simp [intOf]; omega
    · obtain rfl : j = l.length := by omega
      rw [List.take_length] at HT
      have hsz : (mk (l.flatMap oc4)).size ≤ 5000 := by rw [mk_size, flat4_length]; omega
      have O := Lib.hid fun w => rof_any (mk (l.flatMap oc4)) w hsz
      rw [bl_mk, ← HT.out] at O
      have T := Lib.hid fun w => rtext_any (crc (l.flatMap oc4)) w (crc_lt _)
      have C := Lib.hid fun w => rcount_any l.length w h1 h2
      have HV : Hid (mk (hexk 8 (crc (l.flatMap oc4))) ++ mk (cnt l.length) = mk (manyP l)) := Lib.hid (mk_append _ _)
      have z1 : (mk (hexk 8 (crc (l.flatMap oc4)))).size = 8 := by rw [mk_size, hexk_length]
      have z2 : (mk (cnt l.length)).size ≤ 14 := by rw [mk_size, cnt]; have := digs_len (n := l.length) (by omega); simp; omega
      obtain ⟨x, hx⟩ : ∃ x, x = mk (hexk 8 (crc (l.flatMap oc4))) := ⟨_, rfl⟩
      obtain ⟨y, hy⟩ : ∃ y, y = mk (cnt l.length) := ⟨_, rfl⟩
      rw [← hx] at T HV z1
      rw [← hy] at C HV z2
      clear hx hy
      go_wp2_with fail
      refine (O.out _).mono ?_
      rintro e w2 ⟨rfl, rfl⟩
      go_wp2_with fail
      refine (T.out _).mono ?_
      rintro e w3 ⟨rfl, q3⟩
      go_wp2_with fail
      refine (C.out _).mono ?_
      rintro e w4 ⟨rfl, q4⟩
      go_wp2
      go_ret
      exact ⟨ret_str HV.out, (q.trans q3).trans q4⟩
end Go.Proofs.Ytlahccmlnbdekaa
