/-
  Contracts of the document's Num, Count, Text, List, TakeNum, count, TakeText, TakeList, Same.
-/
import Derived.Test.YtneclkkbgonkcaaTake
namespace Go.Proofs.Ytneclkkbgonkcaa
open Go.ChangeShapes Go.WideShapes Go.ChangeAt Go.RowKit
set_option linter.unusedVariables false

/-- string of a slice of one octet, and of one of two. -/
theorem conv1 (W : World) (a : Addr) (n : Int) (cap : Nat) (h0 : 0 ≤ n) (h1 : n ≤ 255) (h : W.cell? a = some (.int .u8 n)) :
    (convert 54 9 (.slice (some a) 1 cap)).run Try.prog W = .ok (.string (mk [n.toNat.toUInt8])) W := by
  have := run_convert_bytes_back (P := Try.prog) W 54 9 5 a cap [n.toNat.toUInt8] Try.underlying54 Try.underlying5 Try.underlying9 (by
    intro j hj
    obtain rfl : j = 0 := by simp at hj; omega
    have e : ((n.toNat.toUInt8).toNat : Int) = n := by rw [Lib.toUInt8_toNat (by omega)]; omega
    simp only [Addr.add, if_true, List.getElem_cons_zero]
    rw [e]; exact h)
  exact this
theorem conv2 (W : World) (b : Nat) (n m : Int) (cap : Nat) (h0 : 0 ≤ n) (h1 : n ≤ 255) (g0 : 0 ≤ m) (g1 : m ≤ 255) (h : W.cell? ⟨b, 0, none⟩ = some (.int .u8 n)) (g : W.cell? ⟨b, 1, none⟩ = some (.int .u8 m)) :
    (convert 54 9 (.slice (some ⟨b, 0, none⟩) 2 cap)).run Try.prog W = .ok (.string (mk [n.toNat.toUInt8, m.toNat.toUInt8])) W := by
  have := run_convert_bytes_back (P := Try.prog) W 54 9 5 ⟨b, 0, none⟩ cap [n.toNat.toUInt8, m.toNat.toUInt8] Try.underlying54 Try.underlying5 Try.underlying9 (by
    intro j hj
    have e : ((n.toNat.toUInt8).toNat : Int) = n := by rw [Lib.toUInt8_toNat (by omega)]; omega
    have f : ((m.toNat.toUInt8).toNat : Int) = m := by rw [Lib.toUInt8_toNat (by omega)]; omega
    match j, hj with
    | 0, _ => simp only [Addr.add, if_true, List.getElem_cons_zero]; rw [e]; exact h
    | 1, _ => simp only [Addr.add, List.getElem_cons_succ, List.getElem_cons_zero]; rw [f]; exact g)
  exact this

theorem mk_append (a b : List UInt8) : mk a ++ mk b = mk (a ++ b) := by apply bl_inj; rw [bl_append, bl_mk, bl_mk, bl_mk]
theorem oct_step (n j : Nat) : mk (oct n j) ++ mk [(((n / 256 ^ j : Nat) : Int) % 256).toNat.toUInt8] = mk (oct n (j + 1)) := by
  rw [mk_append, oct_snoc]
  have : (((n / 256 ^ j : Nat) : Int) % 256).toNat = n / 256 ^ j % 256 := by omega
  rw [this]

set_option maxHeartbeats 1000000 in
theorem rnum_any (n : Nat) (w : World) (hn : n < 18446744073709551616) :
    Calls Try.prog 14 #[.int .u64 n] w fun e w' => e = .returned (.string (mk (oct n 8))) ∧ Q w w' := by
  go_enter Try.func14, Try.ntmps14
  go_wp2
  go_loopw [0, 3, 4] (fun M S i wr => ∃ (j m : Nat) (t : ByteArray), j ≤ 8 ∧ m < 18446744073709551616 ∧ t.size ≤ 8 ∧ i = .int .i64 j ∧ M = .int .u64 m ∧ S = .string t ∧ Hid (m = n / 256 ^ j) ∧ Hid (t = mk (oct n j)) ∧ Q w wr) (fun _ _ i _ => 8 - (intOf i).toNat)
  case atStart => exact ⟨0, n, ⟨#[]⟩, Nat.zero_le _, hn, Nat.zero_le _, rfl, rfl, rfl, Lib.hid (by simp), Lib.hid rfl, Q.refl _⟩
  case round =>
    obtain ⟨j, m, t, hj, hm, ht, rfl, rfl, rfl, HM, HT, q⟩ := hrel
    by_cases hlt : j < 8
    · have hcv := fun (W : World) (h : W.cell? ⟨wr.heap.size, 0, none⟩ = some (.int .u8 ((m : Int) % 256))) => conv1 W ⟨wr.heap.size, 0, none⟩ ((m : Int) % 256) 1 (by omega) (by omega) h
      have hsz : (mk [((m : Int) % 256).toNat.toUInt8]).size = 1 := rfl
      obtain ⟨c, hc⟩ : ∃ c, c = mk [((m : Int) % 256).toNat.toUInt8] := ⟨_, rfl⟩
      rw [← hc] at hcv hsz
      have hsz' : c.size ≤ 1 := by omega
      have HC := Lib.hid hc
      clear hc hsz
      go_wp2
      go_roundw
      case rel => exact ⟨j + 1, m / 256, _, by omega, by omega, by rw [HT.out, HC.out, HM.out, oct_step, mk_size, oct_length]; omega, by go_num, by go_num, rfl, Lib.hid (by rw [HM.out, Nat.div_div_eq_div_mul, Nat.pow_succ]), Lib.hid (by rw [HT.out, HC.out, HM.out, oct_step]), q.alloc _⟩
      case measure => simp [intOf]; omega
    · obtain rfl : j = 8 := by omega
      go_wp2
      go_ret
      exact ⟨ret_str HT.out, q⟩

theorem oct2 (n : Nat) (h : n < 65536) : oct n 2 = [UInt8.ofNat (n % 256), UInt8.ofNat (n / 256)] := by
  rw [oct, oct, oct, show n / 256 % 256 = n / 256 by omega]

set_option maxHeartbeats 1000000 in
theorem rcount_any (n : Nat) (w : World) (hn : n < 65536) :
    Calls Try.prog 30 #[.int .i64 n] w fun e w' => e = .returned (.string (mk (oct n 2))) ∧ Q w w' := by
  have HF := Lib.hid (oct2 n hn)
  have hcv := fun (W : World) (h : W.cell? ⟨w.heap.size, 0, none⟩ = some (.int .u8 ((n : Int) % 256))) (g : W.cell? ⟨w.heap.size, 1, none⟩ = some (.int .u8 ((n : Int) / 256))) => conv2 W w.heap.size ((n : Int) % 256) ((n : Int) / 256) 2 (by omega) (by omega) (by omega) (by omega) h g
  go_enter Try.func30, Try.ntmps30
  go_wp2
  go_ret
  exact ⟨ret_str (by rw [HF.out]), (Q.refl _).alloc _⟩

set_option maxHeartbeats 1000000 in
theorem rtext_any (s : ByteArray) (w : World) (hs : s.size ≤ 5000) :
    Calls Try.prog 19 #[.string s] w fun e w' => e = .returned (.string (mk (tx s))) ∧ Q w w' := by
  have hz : (mk (oct s.size 2)).size = 2 := by rw [mk_size, oct_length]
  have HF : Hid (mk (tx s) = mk (oct s.size 2) ++ s) := Lib.hid (by rw [tx, ← mk_append, mk_bl])
  have HC := Lib.hid (rcount_any s.size w (by omega))
  obtain ⟨c, hc⟩ : ∃ c, c = mk (oct s.size 2) := ⟨_, rfl⟩
  rw [← hc] at hz HF HC
  have hz' : c.size ≤ 2 := by omega
  clear hz hc
  go_enter Try.func19, Try.ntmps19
  go_wp2_with fail
  refine HC.out.mono ?_
  rintro e w1 ⟨rfl, q⟩
  go_wp2
  go_ret
  exact ⟨ret_str HF.out.symm, q⟩

/-- The document's List: a text, and whether it is one. -/
def rlstV (l : List ByteArray) : Value := if okL l then .tuple #[.string (mk (lst l)), .bool true] else .tuple #[.string ⟨#[]⟩, .bool false]
theorem rlstV_yes {l : List ByteArray} (h : okL l = true) : rlstV l = .tuple #[.string (mk (lst l)), .bool true] := by rw [rlstV, if_pos h]
theorem rlstV_no {l : List ByteArray} (h : okL l = false) : rlstV l = .tuple #[.string ⟨#[]⟩, .bool false] := by rw [rlstV, h]; rfl
theorem flat_step (l : List ByteArray) (j : Nat) (h : j < l.length) : mk (oct l.length 2 ++ (l.take j).flatMap tx) ++ mk (tx l[j]) = mk (oct l.length 2 ++ (l.take (j + 1)).flatMap tx) := by
  rw [mk_append, take_flat l j h]
theorem flat_size {l : List ByteArray} (hl : l.length ≤ 4000) (hs : ∀ s ∈ l, s.size ≤ 5000) (j : Nat) : (mk (oct l.length 2 ++ (l.take j).flatMap tx)).size ≤ 100000000 := by
  rw [mk_size, List.length_append, oct_length]
  have h1 := flat_length (l.take j) (fun x hx => hs x (List.mem_of_mem_take hx))
  have h2 : (l.take j).length ≤ 4000 := by rw [List.length_take]; omega
  omega

set_option maxHeartbeats 1000000 in
theorem rlist_any (l : List ByteArray) (v : Value) (w : World) (hl : l.length ≤ 1000000) (hs : ∀ s ∈ l, s.size ≤ 5000) (ht : Txts w w.heap.size v l) :
    Calls Try.prog 16 #[v] w fun e w' => e = .returned (rlstV l) ∧ Q w w' := by
  obtain ⟨A, c, rfl, hcells⟩ := ht
  have HS := Lib.hid hs
  have HC := Lib.hid hcells
  clear hs hcells
  by_cases hlong : 4000 < l.length
  · rw [rlstV_no (okL_long hlong)]
    go_enter Try.func16, Try.ntmps16
    go_wp2
    go_ret2
    exact ⟨rfl, Q.refl _⟩
  · go_enter Try.func16, Try.ntmps16
    go_wp2_with fail
    refine (rcount_any l.length w (by omega)).mono ?_
    rintro e w1 ⟨rfl, q⟩
    go_wp2_with fail
    go_loopw [4, 5] (fun S i wr => ∃ (j : Nat) (t : ByteArray), j ≤ l.length ∧ t.size ≤ 100000000 ∧ i = .int .i64 j ∧ S = .string t ∧ Hid (t = mk (oct l.length 2 ++ (l.take j).flatMap tx)) ∧ Q w wr ∧ Hid (∀ s ∈ l.take j, s.size ≤ 4000)) (fun _ i _ => l.length - (intOf i).toNat)
    case atStart => exact ⟨0, _, Nat.zero_le _, by rw [mk_size, oct_length]; omega, rfl, rfl, Lib.hid (by simp), q, Lib.hid (by simp)⟩
    case round =>
      obtain ⟨j, t, hj, ht, rfl, rfl, HT, hq, HK⟩ := hrel
      by_cases hlt : j < l.length
      · obtain ⟨a, rfl, ha, hcell⟩ := HC.out j hlt
        have hcell' := (Below.cell hq (p := a.add j) (by rw [add_block]; exact ha)).trans hcell
        clear hcell
        obtain ⟨s, hsj⟩ : ∃ s, s = l[j] := ⟨_, rfl⟩
        rw [← hsj] at hcell'
        have h5 : s.size ≤ 5000 := by rw [hsj]; exact HS.out _ (List.getElem_mem hlt)
        have HJ := Lib.hid hsj
        clear hsj
        by_cases hbig : 4000 < s.size
        · have HV := Lib.hid (rlstV_no (okL_big hlt (by rw [← HJ.out]; exact hbig)))
          go_wp2_with fail
          go_ret2
          exact ⟨by rw [HV.out]; rfl, hq⟩
        · have HN := Lib.hid (flat_size (by omega) HS.out (j + 1))
          have HX : Hid (mk (oct l.length 2 ++ (l.take (j + 1)).flatMap tx) = t ++ mk (tx s)) := Lib.hid (by rw [HT.out, HJ.out]; exact (flat_step l j hlt).symm)
          have hz : (mk (tx s)).size ≤ 6000 := by rw [mk_size, tx_length]; omega
          have HR := Lib.hid (rtext_any s wr h5)
          obtain ⟨y, hy⟩ : ∃ y, y = mk (tx s) := ⟨_, rfl⟩
          rw [← hy] at HX hz HR
          clear hy
          go_wp2_with fail
          refine HR.out.mono ?_
          rintro e w2 ⟨rfl, q2⟩
          go_wp2_with fail
          go_roundw
          case rel => exact ⟨j + 1, _, by omega, by rw [← HX.out]; exact HN.out, by go_num, rfl, Lib.hid HX.out.symm, hq.trans q2, Lib.hid (okTo_step hlt HK.out (by rw [← HJ.out]; omega))⟩
          case measure => simp [intOf]; omega
      · obtain rfl : j = l.length := by omega
        have HV := Lib.hid (rlstV_yes (okTo_end (by omega) HK.out))
        have HT' : Hid (t = mk (lst l)) := Lib.hid (by rw [HT.out, List.take_length]; rfl)
        go_wp2
        go_ret2
        exact ⟨by rw [HV.out, ← HT'.out]; rfl, hq⟩

/-- The document's TakeNum. -/
theorem val_pre (s : ByteArray) (i : Nat) (h : i < s.size) (h8 : s.size ≥ 8) (hi : i < 8) : 256 * val (((bl s).take 8).drop (i + 1)) + s[i].toNat = val (((bl s).take 8).drop i) := by
  have hl : i < ((bl s).take 8).length := by rw [take_length s 8 h8]; exact hi
  rw [List.drop_eq_getElem_cons hl, val]
  have e : ((bl s).take 8)[i] = s[i] := by rw [List.getElem_take]; rfl
  rw [e]; omega

set_option maxHeartbeats 1000000 in
theorem rtakeNum_any (s : ByteArray) (w : World) (hs : s.size ≤ 1000000000) :
    Calls Try.prog 24 #[.string s] w fun e w' => e = .returned (.tuple #[.int .u64 ((tn s).1 : Nat), .bool (decide ((tn s).2.2 = 0))]) ∧ w = w' := by
  by_cases h8 : s.size < 8
  · have HE : Hid (tn s = (0, ⟨#[]⟩, 3)) := Lib.hid (by rw [tn, if_pos h8])
    go_enter Try.func24, Try.ntmps24
    go_wp2
    go_ret2
    exact ⟨by rw [HE.out]; rfl, rfl⟩
  · have HE : Hid (tn s = (val ((bl s).take 8), s.extract 8 s.size, 0)) := Lib.hid (by rw [tn, if_neg h8])
    go_enter Try.func24, Try.ntmps24
    go_wp2
    go_loop [4, 5] (fun M i => ∃ (z : Int) (m : Nat), -1 ≤ z ∧ z ≤ 7 ∧ i = .int .i64 z ∧ M = .int .u64 m ∧ m < 18446744073709551616 ∧ Hid (m = val (((bl s).take 8).drop (z + 1).toNat))) (fun _ i => (intOf i + 1).toNat)
    case atStart => exact ⟨7, 0, by omega, by omega, rfl, rfl, by omega, Lib.hid (by rw [List.drop_eq_nil_of_le (by rw [take_length s 8 (by omega)]; omega)]; rfl)⟩
    case round =>
      obtain ⟨z, m, hz0, hz1, rfl, rfl, hm, HM⟩ := hrel
      by_cases hz : 0 ≤ z
      · obtain ⟨k, rfl⟩ : ∃ k : Nat, z = k := ⟨z.toNat, by omega⟩
        have hk : k < s.size := by omega
        have e := val_pre s k hk (by omega) (by omega)
        rw [show k + 1 = ((k : Int) + 1).toNat by omega, ← HM.out] at e
        have hl := val_lt64 (((bl s).take 8).drop k) (by rw [List.length_drop, take_length s 8 (by omega)]; omega)
        rw [← e] at hl
        have HE2 := Lib.hid e
        clear e
        go_wp2
        go_round
        case rel => exact ⟨(k : Int) - 1, _, by omega, by omega, by go_num, by go_num, hl, Lib.hid (by rw [HE2.out, show ((k : Int) - 1 + 1).toNat = k by omega])⟩
        case measure => simp [intOf]
      · obtain rfl : z = -1 := by omega
        have HM' : Hid (m = val ((bl s).take 8)) := Lib.hid HM.out
        go_wp2
        go_ret2
        exact ⟨by rw [HE.out, ← HM'.out]; rfl, rfl⟩

theorem cnt_at (s : ByteArray) (h : 2 ≤ s.size) : cnt s = s[0].toNat + 256 * s[1].toNat := by
  have e : (bl s).take 2 = [s[0], s[1]] := by rw [take_snoc s 1 (by omega), take_snoc s 0 (by omega)]; rfl
  rw [cnt, e]; simp [val]

set_option maxHeartbeats 1000000 in
theorem rcnt_any (s : ByteArray) (w : World) (hs : s.size ≤ 1000000000) :
    Calls Try.prog 33 #[.string s] w fun e w' => e = .returned (.tuple #[.int .i64 ((tc s).1 : Nat), .int .i64 ((tc s).2.2 : Nat)]) ∧ Q w w' := by
  by_cases h2 : s.size < 2
  · have HE : Hid (tc s = (0, ⟨#[]⟩, 3)) := Lib.hid (by rw [tc, if_pos h2])
    go_enter Try.func33, Try.ntmps33
    go_wp2
    go_ret2
    exact ⟨by rw [HE.out]; rfl, Q.refl _⟩
  · have e := cnt_at s (by omega)
    have p0 : 0 < s.size := by omega
    have p1 : 1 < s.size := by omega
    have p2 : (1 : Int) < (s.size : Int) := by omega
    have p3 : (0 : Int) < (s.size : Int) := by omega
    have b0 := UInt8.toNat_lt s[0]
    have b1 := UInt8.toNat_lt s[1]
    by_cases h4 : 4000 < s[0].toNat + 256 * s[1].toNat
    · have HE : Hid (tc s = (0, ⟨#[]⟩, 2)) := Lib.hid (by rw [tc, if_neg h2, if_pos (by rw [e]; exact h4)])
      clear e
      go_enter Try.func33, Try.ntmps33
      go_wp2
      go_region
      go_wp2
      go_ret2
      exact ⟨by rw [HE.out]; rfl, (Q.refl _).drew⟩
    · have HE : Hid (tc s = (s[0].toNat + 256 * s[1].toNat, s.extract 2 s.size, 0)) := Lib.hid (by rw [tc, if_neg h2, if_neg (by rw [e]; exact h4), e])
      have HN : Hid (((tc s).1 : Int) = (s[0].toNat : Int) + 256 * (s[1].toNat : Int)) := Lib.hid (by rw [HE.out]; simp)
      have HF : Hid ((tc s).2.2 = 0) := Lib.hid (by rw [HE.out])
      clear e
      go_enter Try.func33, Try.ntmps33
      go_wp2
      go_region
      go_wp2
      go_ret2
      exact ⟨by rw [HN.out, HF.out]; rfl, (Q.refl _).drew⟩

/-- The document's TakeText: the text, how many octets that is, and the error's number. -/
def ttn (s : ByteArray) : Nat := if (tt s).2.2 = 0 then 2 + cnt s else 0
set_option maxHeartbeats 1000000 in
theorem rtakeText_any (s : ByteArray) (w : World) (hs : s.size ≤ 1000000000) :
    Calls Try.prog 25 #[.string s] w fun e w' => e = .returned (.tuple #[.string (tt s).1, .int .i64 (ttn s : Nat), .int .i64 ((tt s).2.2 : Nat)]) ∧ Q w w' := by
  have HC := Lib.hid (rcnt_any s w hs)
  by_cases h2 : s.size < 2
  · have HE : Hid (tt s = (⟨#[]⟩, ⟨#[]⟩, 3)) := Lib.hid (by rw [tt, if_pos h2])
    have HN : Hid (ttn s = 0) := Lib.hid (by rw [ttn, HE.out]; rfl)
    have ht : tc s = (0, ⟨#[]⟩, 3) := by rw [tc, if_pos h2]
    rw [ht] at HC
    clear ht
    go_enter Try.func25, Try.ntmps25
    go_wp2_with fail
    refine HC.out.mono ?_
    rintro e w1 ⟨rfl, q⟩
    go_wp2
    go_ret3
    exact ⟨by rw [HE.out, HN.out]; rfl, q⟩
  · by_cases h4 : 4000 < cnt s
    · have HE : Hid (tt s = (⟨#[]⟩, ⟨#[]⟩, 2)) := Lib.hid (by rw [tt, if_neg h2, if_pos h4])
      have HN : Hid (ttn s = 0) := Lib.hid (by rw [ttn, HE.out]; rfl)
      have ht : tc s = (0, ⟨#[]⟩, 2) := by rw [tc, if_neg h2, if_pos h4]
      rw [ht] at HC
      clear ht
      go_enter Try.func25, Try.ntmps25
      go_wp2_with fail
      refine HC.out.mono ?_
      rintro e w1 ⟨rfl, q⟩
      go_wp2
      go_ret3
      exact ⟨by rw [HE.out, HN.out]; rfl, q⟩
    · have ht : tc s = (cnt s, s.extract 2 s.size, 0) := by rw [tc, if_neg h2, if_neg h4]
      rw [ht] at HC
      clear ht
      by_cases h5 : s.size < 2 + cnt s
      · have HE : Hid (tt s = (⟨#[]⟩, ⟨#[]⟩, 3)) := Lib.hid (by rw [tt, if_neg h2, if_neg h4, if_pos h5])
        have HN : Hid (ttn s = 0) := Lib.hid (by rw [ttn, HE.out]; rfl)
        generalize cnt s = c at *
        go_enter Try.func25, Try.ntmps25
        go_wp2_with fail
        refine HC.out.mono ?_
        rintro e w1 ⟨rfl, q⟩
        go_wp2
        go_ret3
        exact ⟨by rw [HE.out, HN.out]; rfl, q⟩
      · have HE : Hid (tt s = (s.extract 2 (2 + cnt s), s.extract (2 + cnt s) s.size, 0)) := Lib.hid (by rw [tt, if_neg h2, if_neg h4, if_neg h5])
        have HN : Hid ((ttn s : Int) = 2 + (cnt s : Int)) := Lib.hid (by rw [ttn, HE.out]; simp)
        generalize cnt s = c at *
        go_enter Try.func25, Try.ntmps25
        go_wp2_with fail
        refine HC.out.mono ?_
        rintro e w1 ⟨rfl, q⟩
        go_wp2
        go_ret3
        exact ⟨by rw [HE.out, HN.out]; rfl, q⟩
end Go.Proofs.Ytneclkkbgonkcaa
