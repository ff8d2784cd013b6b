/-
  Plain facts: what is laid is taken as it was; a beginning of it is too short.
-/
import Derived.Test.YtneclkkbgonkcaaTake
namespace Go.Proofs.Ytneclkkbgonkcaa
open Go.ChangeShapes Go.WideShapes Go.ChangeAt Go.RowKit
set_option linter.unusedVariables false

theorem mk_cat (a b : List UInt8) : mk a ++ mk b = mk (a ++ b) := by apply bl_inj; rw [bl_append, bl_mk, bl_mk, bl_mk]
theorem mk_cat' (a : List UInt8) (b : ByteArray) : mk a ++ b = mk (a ++ bl b) := by rw [← mk_bl b, mk_cat, bl_mk]
theorem mk_nil : mk [] = (⟨#[]⟩ : ByteArray) := rfl
theorem mk_extract (l : List UInt8) (i j : Nat) : (mk l).extract i j = mk ((l.drop i).take (j - i)) := by apply bl_inj; rw [bl_extract, bl_mk, bl_mk]
theorem tc_oct {n : Nat} (h : n ≤ 4000) (r : List UInt8) : tc (mk (oct n 2 ++ r)) = (n, mk r, 0) := by
  have hl : (oct n 2).length = 2 := oct_length n 2
  have hs : (mk (oct n 2 ++ r)).size = 2 + r.length := by rw [mk_size, List.length_append, hl]
  have hc : cnt (mk (oct n 2 ++ r)) = n := by
    rw [cnt, bl_mk, List.take_append_of_le_length (by omega), List.take_of_length_le (by omega), val_oct]; omega
  rw [tc, hc, hs, if_neg (by omega), if_neg (by omega), mk_extract, List.drop_append_of_le_length (by omega), List.drop_of_length_le (by omega), List.nil_append, List.take_of_length_le (by omega)]
theorem tt_of_tc (s : ByteArray) : tt s = if (tc s).2.2 = 0 then (if (tc s).2.1.size < (tc s).1 then (⟨#[]⟩, ⟨#[]⟩, 3) else ((tc s).2.1.extract 0 (tc s).1, (tc s).2.1.extract (tc s).1 (tc s).2.1.size, 0)) else (⟨#[]⟩, ⟨#[]⟩, (tc s).2.2) := by
  unfold tt
  by_cases h2 : s.size < 2
  · rw [if_pos h2, tc, if_pos h2]; rfl
  · rw [if_neg h2, tc, if_neg h2]
    by_cases h4 : 4000 < cnt s
    · rw [if_pos h4, if_pos h4]; rfl
    · rw [if_neg h4, if_neg h4]
      have hz : (s.extract 2 s.size).size = s.size - 2 := size_cut s (Nat.le_refl _)
      simp only [if_true]
      by_cases h5 : s.size < 2 + cnt s
      · rw [if_pos h5, if_pos (by rw [hz]; omega)]
      · rw [if_neg h5, if_neg (by rw [hz]; omega), cut_cut, cut_cut, Nat.min_eq_left (by omega), hz, Nat.add_zero]
        congr 2
        congr 1
        omega
theorem tt_oct {n : Nat} (h : n ≤ 4000) (r : List UInt8) : tt (mk (oct n 2 ++ r)) = if r.length < n then (⟨#[]⟩, ⟨#[]⟩, 3) else (mk (r.take n), mk (r.drop n), 0) := by
  rw [tt_of_tc, tc_oct h]
  simp only [if_true, mk_size]
  by_cases q : r.length < n
  · rw [if_pos q, if_pos q]
  · rw [if_neg q, if_neg q, mk_extract, mk_extract, List.drop_zero, Nat.sub_zero]
    congr 3
    exact List.take_of_length_le (by rw [List.length_drop]; omega)
theorem tt_tx {s : ByteArray} (h : s.size ≤ 4000) (b : List UInt8) : tt (mk (tx s ++ b)) = (s, mk b, 0) := by
  rw [tx, List.append_assoc, tt_oct h, if_neg (by rw [List.length_append, bl_length]; omega)]
  have e := bl_length s
  rw [List.take_append_of_le_length (by omega), List.take_of_length_le (by omega), List.drop_append_of_le_length (by omega), List.drop_of_length_le (by omega), List.nil_append, mk_bl]
theorem tl_flat : ∀ (l : List ByteArray) (b : List UInt8), (∀ s ∈ l, s.size ≤ 4000) → tl l.length (mk (l.flatMap tx ++ b)) = (l, mk b, 0)
  | [], b, _ => by simp [tl]
  | s :: r, b, h => by
    rw [List.length_cons, List.flatMap_cons, List.append_assoc, tl, tt_tx (h s (List.mem_cons_self ..)), tl_flat r b fun x hx => h x (List.mem_cons_of_mem _ hx)]
    simp
theorem tls_lst {l : List ByteArray} (h : okL l = true) (b : List UInt8) : tls (mk (lst l ++ b)) = (l, mk b, 0) := by
  obtain ⟨h1, h2⟩ := okL_iff.1 h
  rw [lst, List.append_assoc, tls, tc_oct h1]
  simp only [if_true]
  exact tl_flat l b h2
theorem tls_lst' {l : List ByteArray} (h : okL l = true) (b : ByteArray) : tls (mk (lst l) ++ b) = (l, b, 0) := by
  rw [mk_cat', tls_lst h, mk_bl]
theorem tls_all {l : List ByteArray} (h : okL l = true) : tls (mk (lst l)) = (l, ⟨#[]⟩, 0) := by
  have := tls_lst h []
  rw [List.append_nil] at this
  exact this
theorem whl_all {l : List ByteArray} (h : okL l = true) : whl (mk (lst l)) = (l, 0) := by
  rw [whl, tls_all h]; rfl
theorem lst_inj {a b : List ByteArray} (ha : okL a = true) (hb : okL b = true) (h : mk (lst a) = mk (lst b)) : a = b := by
  have h1 := tls_all ha
  rw [h, tls_all hb] at h1
  exact (congrArg Prod.fst h1).symm
theorem lst_head {a b : List ByteArray} (ha : okL a = true) (hb : okL b = true) (h : (mk (lst b)).extract 0 (mk (lst a)).size = mk (lst a)) : a = b := by
  have e : mk (lst b) = mk (lst a) ++ (mk (lst b)).extract (mk (lst a)).size (mk (lst b)).size := by
    apply bl_inj
    have h' := congrArg bl h
    rw [bl_extract, List.drop_zero, Nat.sub_zero] at h'
    rw [bl_append, bl_extract, ← h']
    have e2 : ((bl (mk (lst b))).drop (mk (lst a)).size).take ((mk (lst b)).size - (mk (lst a)).size) = (bl (mk (lst b))).drop (mk (lst a)).size := List.take_of_length_le (by rw [List.length_drop, bl_length]; omega)
    rw [e2, List.take_append_drop]
  have h1 := tls_all hb
  rw [e, tls_lst' ha] at h1
  exact congrArg Prod.fst h1
theorem tt_short {s : ByteArray} (h : s.size ≤ 4000) {m : Nat} (hm : m < (tx s).length) : tt (mk ((tx s).take m)) = (⟨#[]⟩, ⟨#[]⟩, 3) := by
  rw [tx_length] at hm
  by_cases q : m < 2
  · rw [tt, if_pos (by rw [mk_size, List.length_take]; omega)]
  · have e : (tx s).take m = oct s.size 2 ++ (bl s).take (m - 2) := by
      rw [tx, List.take_append, oct_length, List.take_of_length_le (by rw [oct_length]; omega)]
    rw [e, tt_oct h, if_pos (by rw [List.length_take, bl_length]; omega)]
theorem tl_short : ∀ (l : List ByteArray) (m : Nat), (∀ s ∈ l, s.size ≤ 4000) → m < (l.flatMap tx).length → tl l.length (mk ((l.flatMap tx).take m)) = ([], ⟨#[]⟩, 3)
  | [], m, _, hm => by simp at hm
  | s :: r, m, h, hm => by
    have hs := h s (List.mem_cons_self ..)
    rw [List.flatMap_cons, List.length_append] at hm
    rw [List.length_cons, List.flatMap_cons, List.take_append, tl]
    by_cases q : m < (tx s).length
    · rw [show m - (tx s).length = 0 by omega, List.take_zero, List.append_nil, tt_short hs q]; simp
    · rw [List.take_of_length_le (by omega), tt_tx hs, tl_short r (m - (tx s).length) (fun x hx => h x (List.mem_cons_of_mem _ hx)) (by omega)]; simp
theorem tls_short {l : List ByteArray} (h : okL l = true) {m : Nat} (hm : m < (lst l).length) : tls (mk ((lst l).take m)) = ([], ⟨#[]⟩, 3) := by
  obtain ⟨h1, h2⟩ := okL_iff.1 h
  rw [lst, List.length_append, oct_length] at hm
  by_cases q : m < 2
  · have : tc (mk ((lst l).take m)) = (0, ⟨#[]⟩, 3) := by rw [tc, if_pos (by rw [mk_size, List.length_take]; omega)]
    rw [tls, this]; rfl
  · have e : (lst l).take m = oct l.length 2 ++ (l.flatMap tx).take (m - 2) := by
      rw [lst, List.take_append, oct_length, List.take_of_length_le (by rw [oct_length]; omega)]
    rw [e, tls, tc_oct h1]
    simp only [if_true]
    exact tl_short l (m - 2) h2 (by omega)
theorem lst_size {l : List ByteArray} (hl : l.length ≤ 4002) (hs : ∀ s ∈ l, s.size ≤ 4100) : (mk (lst l)).size ≤ 100000000 := by
  rw [mk_size, lst, List.length_append, oct_length]
  have := flat_length l (fun s h => Nat.le_trans (hs s h) (by omega))
  omega
theorem tn_num {n : Nat} (h : n < 18446744073709551616) (b : ByteArray) : tn (mk (oct n 8) ++ b) = (n, b, 0) := by
  have hl : (oct n 8).length = 8 := oct_length n 8
  have h8 : (256 : Nat) ^ 8 = 18446744073709551616 := by decide
  rw [mk_cat', tn, mk_size, List.length_append, hl, if_neg (by omega), bl_mk, List.take_append_of_le_length (by omega), List.take_of_length_le (by omega), val_oct, h8, Nat.mod_eq_of_lt h, mk_extract, List.drop_append_of_le_length (by omega), List.drop_of_length_le (by omega), List.nil_append, List.take_of_length_le (by omega), mk_bl]
theorem tt_text {s : ByteArray} (h : s.size ≤ 4000) (b : ByteArray) : tt (mk (tx s) ++ b) = (s, b, 0) := by rw [mk_cat', tt_tx h, mk_bl]
end Go.Proofs.Ytneclkkbgonkcaa
