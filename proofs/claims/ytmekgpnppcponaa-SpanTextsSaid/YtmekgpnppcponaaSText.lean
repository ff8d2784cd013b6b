/-
  Contracts of Text, the document's Text, its number.
-/
import Derived.Test.YtmekgpnppcponaaSPlain
namespace Go.Proofs.Ytmekgpnppcponaa
open Go.ChangeShapes Go.WideShapes Go.ChangeAt Go.RowKit
set_option linter.unusedVariables false

theorem txt_b (t : Nat) : (⟨#[45]⟩ : ByteArray) ++ mk (digs t) = mk (txtP 0 t false true) := by
  apply bl_inj; rw [bl_append, bl_mk, bl_mk]; rfl
theorem txt_o (f : Nat) : mk (digs f) ++ (⟨#[45]⟩ : ByteArray) = mk (txtP f 0 true false) := by
  apply bl_inj; rw [bl_append, bl_mk, bl_mk]; rfl
theorem txt_n (f t : Nat) : mk (digs f) ++ ((⟨#[45]⟩ : ByteArray) ++ mk (digs t)) = mk (txtP f t false false) := by
  apply bl_inj; rw [bl_append, bl_append, bl_mk, bl_mk, bl_mk]; rfl
theorem txt_n2 (f t : Nat) : mk (digs f) ++ (⟨#[45]⟩ : ByteArray) ++ mk (digs t) = mk (txtP f t false false) := by
  apply bl_inj; rw [bl_append, bl_append, bl_mk, bl_mk, bl_mk]
  show (digs f ++ [45]) ++ digs t = digs f ++ 45 :: digs t
  simp
theorem digs_sz {n : Nat} (h : n ≤ 1099511627775) : (mk (digs n)).size ≤ 13 := by rw [mk_size]; exact digs_len h
theorem ret2 {a b : ByteArray} {e : Int} (h : a = b) : Ending.returned (.tuple #[.string a, .int .i64 e]) = .returned (.tuple #[.string b, .int .i64 e]) := by rw [h]

set_option maxHeartbeats 1000000 in
theorem text_no (f t : Int) (o b : Bool) (w : World) (h : mayP f t o b = false) :
    Calls Try.prog 11 #[spn f t o b] w fun e w' => e = .returned (.tuple #[.string ⟨#[]⟩, .int .i64 1]) ∧ Q w w' := by
  have HQ := Lib.hid (fun o => (Q.refl w).alloc o)
  have C := Lib.hid (fun w => may_any f t o b w)
  rw [h] at C
  clear h
  rw [spn] at C ⊢
  go_enter Try.func11, Try.ntmps11
  go_wp2_with fail
  refine (C.out _).mono ?_
  rintro e w1 ⟨rfl, q⟩
  go_wp2
  go_ret2
  exact ⟨rfl, (HQ.out _).trans q⟩

set_option maxHeartbeats 1000000 in
theorem text_yes (f t : Nat) (o b : Bool) (w : World) (h : mayP f t o b = true) :
    Calls Try.prog 11 #[spn f t o b] w fun e w' => e = .returned (.tuple #[.string (mk (txtP f t o b)), .int .i64 0]) ∧ Q w w' := by
  have HQ := Lib.hid (fun o => (Q.refl w).alloc o)
  have C := Lib.hid (fun w => may_any f t o b w)
  rw [h] at C
  rcases may_kinds h with ⟨rfl, rfl, h1, h2, h3⟩ | ⟨rfl, rfl, h1, h2, h3⟩ | ⟨rfl, rfl, h1, h2, h3⟩
  · obtain rfl : t = 0 := by omega
    have hf : f ≤ 1099511627775 := by omega
    have D := Lib.hid (fun w => digits_any f w hf)
    have HT := Lib.hid (txt_o f)
    have hz := digs_sz hf
    obtain ⟨x, hx⟩ : ∃ x, x = mk (digs f) := ⟨_, rfl⟩
    rw [← hx] at D HT hz
    clear h hx h1 h2 h3
    rw [spn] at C ⊢
    go_enter Try.func11, Try.ntmps11
    go_wp2_with fail
    refine (C.out _).mono ?_
    rintro e w1 ⟨rfl, q⟩
    obtain ⟨c0, c1, c2, c3⟩ := cells_of q
    go_wp2_with fail
    refine (D.out _).mono ?_
    rintro e w2 ⟨rfl, q2⟩
    go_wp2
    go_ret2
    exact ⟨ret2 HT.out, ((HQ.out _).trans q).trans q2⟩
  · obtain rfl : f = 0 := by omega
    have hf : t ≤ 1099511627775 := by omega
    have D := Lib.hid (fun w => digits_any t w hf)
    have HT := Lib.hid (txt_b t)
    have hz := digs_sz hf
    obtain ⟨x, hx⟩ : ∃ x, x = mk (digs t) := ⟨_, rfl⟩
    rw [← hx] at D HT hz
    clear h hx h1 h2 h3
    rw [spn] at C ⊢
    go_enter Try.func11, Try.ntmps11
    go_wp2_with fail
    refine (C.out _).mono ?_
    rintro e w1 ⟨rfl, q⟩
    obtain ⟨c0, c1, c2, c3⟩ := cells_of q
    go_wp2_with fail
    refine (D.out _).mono ?_
    rintro e w2 ⟨rfl, q2⟩
    go_wp2
    go_ret2
    exact ⟨ret2 HT.out, ((HQ.out _).trans q).trans q2⟩
  · have hf : f ≤ 1099511627775 := by omega
    have ht : t ≤ 1099511627775 := by omega
    have D := Lib.hid (fun w => digits_any t w ht)
    have E := Lib.hid (fun w => digits_any f w hf)
    have HT := Lib.hid (txt_n f t)
    have hz := digs_sz ht
    have hz2 := digs_sz hf
    obtain ⟨x, hx⟩ : ∃ x, x = mk (digs t) := ⟨_, rfl⟩
    obtain ⟨y, hy⟩ : ∃ y, y = mk (digs f) := ⟨_, rfl⟩
    rw [← hx] at D HT hz
    rw [← hy] at E HT hz2
    clear h hx hy h1 h2 h3
    rw [spn] at C ⊢
    go_enter Try.func11, Try.ntmps11
    go_wp2_with fail
    refine (C.out _).mono ?_
    rintro e w1 ⟨rfl, q⟩
    obtain ⟨c0, c1, c2, c3⟩ := cells_of q
    go_wp2_with fail
    refine (D.out _).mono ?_
    rintro e w2 ⟨rfl, q2⟩
    have hg : w.heap.size < w1.heap.size := by have := q.size; simp at this; omega
    have d0 := (Below.cell q2 (p := ⟨w.heap.size, 0, none⟩) hg).trans c0
    go_wp2_with fail
    refine (E.out _).mono ?_
    rintro e w3 ⟨rfl, q3⟩
    go_wp2
    go_ret2
    exact ⟨ret2 HT.out, (((HQ.out _).trans q).trans q2).trans q3⟩

set_option maxHeartbeats 1000000 in
theorem rtext_yes (f t : Nat) (o b : Bool) (w : World) (h : mayP f t o b = true) :
    Calls Try.prog 17 #[spn f t o b] w fun e w' => e = .returned (.string (mk (txtP f t o b))) ∧ Q w w' := by
  have HQ := Lib.hid (fun o => (Q.refl w).alloc o)
  rcases may_kinds h with ⟨rfl, rfl, h1, h2, h3⟩ | ⟨rfl, rfl, h1, h2, h3⟩ | ⟨rfl, rfl, h1, h2, h3⟩
  · obtain rfl : t = 0 := by omega
    have hf : f ≤ 1099511627775 := by omega
    have D := Lib.hid (fun w => rdigits_any f w hf)
    have HT := Lib.hid (txt_o f)
    have hz := digs_sz hf
    obtain ⟨x, hx⟩ : ∃ x, x = mk (digs f) := ⟨_, rfl⟩
    rw [← hx] at D HT hz
    clear h hx h1 h2 h3
    rw [spn]
    go_enter Try.func17, Try.ntmps17
    go_wp2_with fail
    refine (D.out _).mono ?_
    rintro e w2 ⟨rfl, q⟩
    obtain ⟨c0, c1, c2, c3⟩ := cells_of q
    go_wp2
    go_ret
    exact ⟨ret_str HT.out, (HQ.out _).trans q⟩
  · obtain rfl : f = 0 := by omega
    have hf : t ≤ 1099511627775 := by omega
    have D := Lib.hid (fun w => rdigits_any t w hf)
    have HT := Lib.hid (txt_b t)
    have hz := digs_sz hf
    obtain ⟨x, hx⟩ : ∃ x, x = mk (digs t) := ⟨_, rfl⟩
    rw [← hx] at D HT hz
    clear h hx h1 h2 h3
    rw [spn]
    go_enter Try.func17, Try.ntmps17
    go_wp2_with fail
    refine (D.out _).mono ?_
    rintro e w2 ⟨rfl, q⟩
    go_wp2
    go_ret
    exact ⟨ret_str HT.out, (HQ.out _).trans q⟩
  · have hf : f ≤ 1099511627775 := by omega
    have ht : t ≤ 1099511627775 := by omega
    have D := Lib.hid (fun w => rdigits_any t w ht)
    have E := Lib.hid (fun w => rdigits_any f w hf)
    have HT := Lib.hid (txt_n2 f t)
    have hz := digs_sz ht
    have hz2 := digs_sz hf
    obtain ⟨x, hx⟩ : ∃ x, x = mk (digs t) := ⟨_, rfl⟩
    obtain ⟨y, hy⟩ : ∃ y, y = mk (digs f) := ⟨_, rfl⟩
    rw [← hx] at D HT hz
    rw [← hy] at E HT hz2
    clear h hx hy h1 h2 h3
    rw [spn]
    go_enter Try.func17, Try.ntmps17
    go_wp2_with fail
    refine (E.out _).mono ?_
    rintro e w1 ⟨rfl, q⟩
    obtain ⟨c0, c1, c2, c3⟩ := cells_of q
    go_wp2_with fail
    refine (D.out _).mono ?_
    rintro e w2 ⟨rfl, q2⟩
    go_wp2
    go_ret
    exact ⟨ret_str HT.out, ((HQ.out _).trans q).trans q2⟩

theorem foldl_take_step (l : List UInt8) {k : Nat} (h : k < l.length) (f : Int → UInt8 → Int) : (l.take (k + 1)).foldl f 0 = f ((l.take k).foldl f 0) l[k] := by
  rw [List.take_succ_eq_append_getElem h, List.foldl_append]; rfl
def rnk (l : List UInt8) (k : Nat) : Int := (l.take k).foldl (fun n c => 10 * n + (c.toNat : Int) - 48) 0
theorem rnk_step (s : ByteArray) {k : Nat} (h : k < s.size) : rnk (bl s) (k + 1) = 10 * rnk (bl s) k + (s[k].toNat : Int) - 48 := by
  rw [rnk, foldl_take_step _ (by rw [bl_length]; exact h)]; rfl
theorem rnk_end (s : ByteArray) {k : Nat} (h : s.size ≤ k) (hk : k ≤ 14) : rnk (bl s) k = rn (bl s) := by
  rw [rnk, rn, List.take_of_length_le (by rw [bl_length]; omega), List.take_of_length_le (by rw [bl_length]; omega)]
theorem rnk_14 (s : ByteArray) : rnk (bl s) 14 = rn (bl s) := rfl
def big : Nat → Int
  | 0 => 0
  | k + 1 => 10 * big k + 255
theorem rnk_big (s : ByteArray) (k : Nat) (h : k ≤ s.size) : -(big k) ≤ rnk (bl s) k ∧ rnk (bl s) k ≤ big k := by
  induction k with
  | zero => rw [rnk, List.take_zero]; simp [big]
  | succ k ih =>
    have := ih (by omega)
    have hc := UInt8.toNat_lt s[k]
    rw [rnk_step s (by omega), big]; omega
theorem big_14 {k : Nat} (h : k ≤ 14) : big k ≤ 10000000000000000 := by
  have : ∀ j, j ≤ 14 → big j ≤ 10000000000000000 := by decide
  exact this k h

set_option maxHeartbeats 1000000 in
theorem rnumber_any (s : ByteArray) (w : World) (hs : s.size ≤ 5000) :
    Calls Try.prog 24 #[.string s] w fun e w' => e = .returned (.int .i64 (rn (bl s))) ∧ w = w' := by
  go_enter Try.func24, Try.ntmps24
  go_wp2_with fail
  go_loop [3, 4] (fun M i => ∃ j : Nat, j ≤ s.size ∧ j ≤ 14 ∧ i = .int .i64 j ∧ M = .int .i64 (rnk (bl s) j)) (fun _ i => s.size - (intOf i).toNat)
  case atStart => exact ⟨0, Nat.zero_le _, by omega, rfl, rfl⟩
  case round =>
    obtain ⟨j, hj, hj2, rfl, rfl⟩ := hrel
    have hb := rnk_big s j hj
    have hb2 := big_14 hj2
    have hb3 : -10000000000000000 ≤ rnk (bl s) j ∧ rnk (bl s) j ≤ 10000000000000000 := by omega
    obtain ⟨hb4, hb5⟩ := hb3
    clear hb hb2
    by_cases hlt : j < s.size
    · by_cases h14 : j < 14
      · have hc := UInt8.toNat_lt s[j]
        have HS := Lib.hid (rnk_step s hlt)
        obtain ⟨v, hv⟩ : ∃ v, v = rnk (bl s) j := ⟨_, rfl⟩
        rw [← hv] at HS hb4 hb5 ⊢
        clear hv
        go_wp2
        go_round
        case rel => exact ⟨j + 1, by omega, by omega, by go_num, by rw [HS.out]⟩
        case measure => simp [intOf]; omega
      · obtain rfl : j = 14 := by omega
        have HV := Lib.hid (rnk_14 s)
        obtain ⟨v, hv⟩ : ∃ v, v = rnk (bl s) 14 := ⟨_, rfl⟩
        rw [← hv] at HV hb4 hb5 ⊢
        clear hv
        go_wp2
        go_ret
        exact ⟨by rw [HV.out]; rfl, rfl⟩
    · obtain rfl : j = s.size := by omega
      have HV := Lib.hid (rnk_end s (Nat.le_refl _) hj2)
      obtain ⟨v, hv⟩ : ∃ v, v = rnk (bl s) s.size := ⟨_, rfl⟩
      rw [← hv] at HV hb4 hb5 ⊢
      clear hv
      go_wp2
      go_ret
      exact ⟨by rw [HV.out]; rfl, rfl⟩
end Go.Proofs.Ytmekgpnppcponaa
