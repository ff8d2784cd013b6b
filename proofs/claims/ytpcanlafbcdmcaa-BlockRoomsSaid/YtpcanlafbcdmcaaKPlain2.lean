/-
  Layer 14 in plain words: what a cut leaves of records' blocks is those that are whole, and a tail; octets as blocks.
-/
import Derived.Test.YtpcanlafbcdmcaaKPlain
namespace Go.Proofs.Ytpcanlafbcdmcaa
set_option maxRecDepth 100000
set_option linter.unusedVariables false
set_option linter.unusedSimpArgs false

theorem end_blk (s : List UInt8) (i : Nat) : endK (mk (blkK s i)) = footK i (manyK s.length - 1 - i) := by
  rw [endK, bl_mk, blkK, List.drop_append_of_le_length (by rw [padK_length]; exact Nat.le_refl _), List.drop_of_length_le (by rw [padK_length]; exact Nat.le_refl _), List.nil_append]
theorem at_end (b : ByteArray) (i : Nat) : atK b (60 + i) = ((endK b)[i]?.getD 0).toNat := by rw [atK, endK, List.getElem?_drop]
theorem at63_blk (s : List UInt8) (i : Nat) : atK (mk (blkK s i)) 63 = 165 := by
  rw [show 63 = 60 + 3 by rfl, at_end, end_blk]; rfl
theorem fol_foot {b : ByteArray} {p f : Nat} (h : endK b = footK p f) (hf : f < 65536) : folK b = f := by
  rw [folK, show 60 = 60 + 0 by rfl, at_end, show 61 = 60 + 1 by rfl, at_end, h]
  show (f % 256).toUInt8.toNat + 256 * (f / 256 % 256).toUInt8.toNat = f
  rw [toU8, toU8]; omega
theorem fol_lt (b : ByteArray) : folK b < 65536 := by have := atK_lt b 60; have := atK_lt b 61; unfold folK; omega
theorem tailK_iff (b : ByteArray) (r : List ByteArray) : tailK (b :: r) = true ↔ r.length ≤ folK b ∧ (∀ i, i < r.length → (b :: r)[i]?.map endK = some (footK i (folK b - i))) ∧
    (¬ (b :: r)[r.length]?.map (atK · 63) = some 165 ∨ (r.length < folK b ∧ (b :: r)[r.length]?.map endK = some (footK r.length (folK b - r.length)))) := by
  rw [tailK]
  simp only [List.length_cons, Nat.add_sub_cancel, Bool.and_eq_true, decide_eq_true_eq, List.all_eq_true, List.mem_range, Bool.or_eq_true, and_assoc]
theorem first_num {b : ByteArray} {r : List ByteArray} {t : ByteArray} (h : firstK (b :: r) = some t) : numK b = t.size := by
  obtain ⟨h1, h2, h3⟩ := first_some h
  obtain ⟨r2, hr⟩ := lay_cons t h1
  have hp := manyK_pos h1
  rw [hr, show manyK t.size = (manyK t.size - 1) + 1 by omega, List.take_succ_cons] at h3
  injection h3 with h3 _
  rw [h3, num_lay t h1]
/-- A torn block: its first octets, and noughts. -/
def tornK (b : ByteArray) (n : Nat) : ByteArray := mk ((bl b).take n ++ List.replicate (64 - n) 0)
theorem torn_size {b : ByteArray} (hb : b.size = 64) {n : Nat} (hn : n ≤ 64) : (tornK b n).size = 64 := by
  rw [tornK, mk_size, List.length_append, List.length_take, List.length_replicate, bl_length]; omega
theorem torn_63 {b : ByteArray} (hb : b.size = 64) {n : Nat} (hn : n < 64) : atK (tornK b n) 63 = 0 := by
  rw [atK, tornK, bl_mk, List.getElem?_append_right (by rw [List.length_take]; omega), List.getElem?_replicate_of_lt (by rw [List.length_take, bl_length]; omega)]
  rfl
theorem torn_all {b : ByteArray} (hb : b.size = 64) : tornK b 64 = b := by
  rw [tornK, List.take_of_length_le (by rw [bl_length]; omega), Nat.sub_self, List.replicate_zero, List.append_nil, mk_bl]
theorem first_torn {l : List ByteArray} {x : ByteArray} (hx : atK x 63 ≠ 165) (h : ∀ t, firstK (l ++ [x]) = some t → l.length + 1 ≤ manyK t.size) : firstK (l ++ [x]) = none := by
  cases hf : firstK (l ++ [x]) with
  | none => rfl
  | some t =>
    exfalso
    obtain ⟨h1, h2, h3⟩ := first_some hf
    have h4 := h t hf
    rw [List.take_of_length_le (by rw [List.length_append]; exact h4)] at h3
    have hm : x ∈ layK t := by rw [← h3]; simp
    obtain ⟨i, -, rfl⟩ := List.mem_map.1 hm
    exact hx (at63_blk _ _)
theorem lay_at (s : ByteArray) {j i : Nat} (hi : i < j) (hj : j ≤ manyK s.size) : ((layK s).take j)[i]? = some (mk (blkK (bl s) i)) := by
  rw [List.getElem?_take_of_lt hi, List.getElem?_eq_getElem (by rw [layK_length]; omega), layK_get]
theorem take_cons (s : ByteArray) (h : s.size ≤ 12000) {j : Nat} (hj : 0 < j) : ∃ r, (layK s).take j = mk (blkK (bl s) 0) :: r := by
  obtain ⟨r, hr⟩ := lay_cons s h
  rw [hr, show j = (j - 1) + 1 by omega, List.take_succ_cons]
  exact ⟨_, rfl⟩
theorem fol_lay (s : ByteArray) (h : s.size ≤ 12000) : folK (mk (blkK (bl s) 0)) = manyK s.size - 1 := by
  have := manyK_le s.size
  exact fol_foot (p := 0) (by rw [end_blk, bl_length]; rfl) (by omega)
/-- The first blocks of a record, but not all, are a tail, and no record. -/
theorem cut_none (s : ByteArray) (h : s.size ≤ 12000) {j : Nat} (hj : j < manyK s.size) : firstK ((layK s).take j) = none ∧ (((layK s).take j).length = 0 ∨ tailK ((layK s).take j) = true) := by
  by_cases h0 : j = 0
  · subst h0; exact ⟨rfl, .inl rfl⟩
  · obtain ⟨r, hr⟩ := take_cons s h (j := j) (by omega)
    have hlen : ((layK s).take j).length = j := by rw [List.length_take, layK_length]; omega
    have hrl : r.length = j - 1 := by have := congrArg List.length hr; rw [hlen, List.length_cons] at this; omega
    refine ⟨?_, .inr ?_⟩
    · cases hf : firstK ((layK s).take j) with
      | none => rfl
      | some t =>
        exfalso
        have h2 := (first_some hf).2.1
        rw [hr] at hf
        have := first_num hf
        rw [num_lay s h] at this
        rw [← this, hlen] at h2
        omega
    · rw [hr, tailK_iff, ← hr, hrl, fol_lay s h]
      refine ⟨by omega, fun i hi => ?_, .inr ⟨by omega, ?_⟩⟩
      · rw [lay_at s (by omega) (by omega), Option.map_some, end_blk, bl_length]
      · rw [lay_at s (by omega) (by omega), Option.map_some, end_blk, bl_length]
theorem cut_torn1 (s : ByteArray) (h : s.size ≤ 12000) {j : Nat} (hj : j < manyK s.size) {x : ByteArray} (hx : atK x 63 ≠ 165) : firstK ((layK s).take j ++ [x]) = none ∧ tailK ((layK s).take j ++ [x]) = true := by
  have hlen : ((layK s).take j).length = j := by rw [List.length_take, layK_length]; omega
  refine ⟨first_torn hx fun t ht => ?_, ?_⟩
  · by_cases h0 : j = 0
    · have := manyK_pos (first_some ht).1; omega
    · obtain ⟨r, hr⟩ := take_cons s h (j := j) (by omega)
      rw [hr, List.cons_append] at ht
      have := first_num ht
      rw [num_lay s h] at this
      rw [← this, hlen]; omega
  · by_cases h0 : j = 0
    · subst h0
      rw [List.take_zero, List.nil_append, tailK_iff]
      refine ⟨Nat.zero_le _, fun i hi => absurd hi (by simp), .inl ?_⟩
      simpa using hx
    · obtain ⟨r, hr⟩ := take_cons s h (j := j) (by omega)
      have hrl : r.length = j - 1 := by have := congrArg List.length hr; rw [hlen, List.length_cons] at this; omega
      have e : (layK s).take j ++ [x] = mk (blkK (bl s) 0) :: (r ++ [x]) := by rw [hr]; rfl
      rw [e, tailK_iff, ← e, List.length_append, hrl, fol_lay s h]
      refine ⟨by rw [List.length_singleton]; omega, fun i hi => ?_, .inl ?_⟩
      · rw [List.length_singleton] at hi
        rw [List.getElem?_append_left (by omega), lay_at s (by omega) (by omega), Option.map_some, end_blk, bl_length]
      · rw [List.length_singleton, List.getElem?_append_right (by omega), hlen, show j - 1 + 1 - j = 0 by omega]
        simpa using hx
/-- How many blocks the first records have. -/
def upK (rs : List ByteArray) (i : Nat) : Nat := ((rs.take i).flatMap layK).length
theorem upK_zero (rs : List ByteArray) : upK rs 0 = 0 := rfl
theorem upK_succ (rs : List ByteArray) (i : Nat) (h : i < rs.length) : upK rs (i + 1) = upK rs i + manyK rs[i].size := by
  rw [upK, upK, List.take_succ_eq_append_getElem h, List.flatMap_append, List.length_append, List.flatMap_singleton, layK_length]
theorem upK_all (rs : List ByteArray) : upK rs rs.length = (rs.flatMap layK).length := by rw [upK, List.take_length]
theorem flat_split (rs : List ByteArray) (i : Nat) (h : i < rs.length) : rs.flatMap layK = (rs.take i).flatMap layK ++ (layK rs[i] ++ (rs.drop (i + 1)).flatMap layK) := by
  conv => lhs; rw [← List.take_append_drop i rs, List.drop_eq_getElem_cons h]
  rw [List.flatMap_append, List.flatMap_cons]
theorem take_part (rs : List ByteArray) (i k : Nat) (h : i < rs.length) (h1 : upK rs i ≤ k) (h2 : k < upK rs (i + 1)) : (rs.flatMap layK).take k = (rs.take i).flatMap layK ++ (layK rs[i]).take (k - upK rs i) := by
  rw [upK_succ rs i h] at h2
  rw [flat_split rs i h, List.take_append, List.take_of_length_le h1, List.take_append_of_le_length (by rw [layK_length]; have : ((rs.take i).flatMap layK).length = upK rs i := rfl; omega)]
  rfl
theorem cut_plain (rs : List ByteArray) (hr : ∀ s ∈ rs, s.size ≤ 12000) (i k : Nat) (hi : i ≤ rs.length) (h1 : upK rs i ≤ k) (h2 : i < rs.length → k < upK rs (i + 1)) (h3 : k ≤ (rs.flatMap layK).length) :
    allK ((rs.flatMap layK).take k) = (rs.take i, k - upK rs i, true) := by
  by_cases hl : i < rs.length
  · have h2' := h2 hl
    rw [take_part rs i k hl h1 h2']
    rw [upK_succ rs i hl] at h2'
    have hs := hr rs[i] (List.getElem_mem hl)
    obtain ⟨a, b⟩ := cut_none rs[i] hs (j := k - upK rs i) (by omega)
    rw [all_tail (rs.take i) (fun s h => hr s (List.mem_of_mem_take h)) _ a b, List.length_take, layK_length, Nat.min_eq_left (by omega)]
  · have : i = rs.length := by omega
    subst this
    rw [upK_all] at h1 ⊢
    have : k = (rs.flatMap layK).length := by omega
    subst this
    rw [List.take_length, all_lay rs hr, List.take_length, Nat.sub_self]
theorem cut_torn (rs : List ByteArray) (hr : ∀ s ∈ rs, s.size ≤ 12000) (i k : Nat) (hi : i ≤ rs.length) (h1 : upK rs i ≤ k) (h2 : i < rs.length → k < upK rs (i + 1)) (h3 : k < (rs.flatMap layK).length) {x : ByteArray} (hx : atK x 63 ≠ 165) :
    allK ((rs.flatMap layK).take k ++ [x]) = (rs.take i, k + 1 - upK rs i, true) := by
  by_cases hl : i < rs.length
  · have h2' := h2 hl
    rw [take_part rs i k hl h1 h2']
    rw [upK_succ rs i hl] at h2'
    have hs := hr rs[i] (List.getElem_mem hl)
    obtain ⟨a, b⟩ := cut_torn1 rs[i] hs (j := k - upK rs i) (by omega) hx
    rw [List.append_assoc, all_tail (rs.take i) (fun s h => hr s (List.mem_of_mem_take h)) _ a (.inr b), List.length_append, List.length_take, layK_length, Nat.min_eq_left (by omega), List.length_singleton]
    congr 2; omega
  · exfalso
    have : i = rs.length := by omega
    subst this
    rw [upK_all] at h1
    omega
-- octets as blocks
/-- Octets as blocks. -/
def cutK (s : ByteArray) : List ByteArray := (List.range (s.size / 64)).map fun i => s.extract (64 * i) (64 * i + 64)
theorem cutK_length (s : ByteArray) : (cutK s).length = s.size / 64 := by rw [cutK, List.length_map, List.length_range]
theorem cutK_get (s : ByteArray) (i : Nat) (h : i < (cutK s).length) : (cutK s)[i] = s.extract (64 * i) (64 * i + 64) := by simp [cutK]
theorem cutK_size (s : ByteArray) : ∀ b ∈ cutK s, b.size = 64 := by
  intro b hb
  obtain ⟨i, hi, rfl⟩ := List.mem_map.1 hb
  rw [List.mem_range] at hi
  rw [size_cut _ (by omega)]; omega
theorem join_bl (l : List ByteArray) : bl (joinK l) = l.flatMap bl := rfl
theorem flat_drop : ∀ (l : List ByteArray) (h : ∀ b ∈ l, b.size = 64) (i : Nat), i ≤ l.length → (l.flatMap bl).drop (64 * i) = (l.drop i).flatMap bl
  | l, h, 0, hi => rfl
  | [], h, i + 1, hi => absurd hi (by simp)
  | b :: r, h, i + 1, hi => by
    have h0 := h b (List.mem_cons_self ..)
    rw [List.flatMap_cons, show 64 * (i + 1) = 64 + 64 * i by omega, ← List.drop_drop, List.drop_append_of_le_length (by rw [bl_length]; omega), show (bl b).drop 64 = [] from List.drop_of_length_le (by rw [bl_length]; omega), List.nil_append, flat_drop r (fun x hx => h x (List.mem_cons_of_mem _ hx)) i (by simpa using hi), List.drop_succ_cons]
theorem join_at (l : List ByteArray) (h : ∀ b ∈ l, b.size = 64) (i : Nat) (hi : i < l.length) : (joinK l).extract (64 * i) (64 * i + 64) = l[i] := by
  apply bl_inj
  rw [bl_extract, join_bl, flat_drop l h i (by omega), List.drop_eq_getElem_cons hi, List.flatMap_cons, show 64 * i + 64 - 64 * i = 64 by omega]
  have h0 := h l[i] (List.getElem_mem hi)
  rw [List.take_append_of_le_length (by rw [bl_length]; omega), List.take_of_length_le (by rw [bl_length]; omega)]
theorem cut_join (l : List ByteArray) (h : ∀ b ∈ l, b.size = 64) : cutK (joinK l) = l := by
  apply List.ext_getElem
  · rw [cutK_length, joinK_size l h]; omega
  · intro i h1 h2
    rw [cutK_get, join_at l h i h2]
theorem join_cut (s : ByteArray) (h : s.size % 64 = 0) : joinK (cutK s) = s := by
  have key : ∀ (n : Nat) (s : List UInt8), s.length = 64 * n → (List.range n).flatMap (fun i => (s.drop (64 * i)).take 64) = s := by
    intro n
    induction n with
    | zero => intro s hs; exact (List.length_eq_zero_iff.1 (by omega)).symm
    | succ n ih =>
      intro s hs
      rw [List.range_succ_eq_map, List.flatMap_cons, List.flatMap_map]
      have e : (List.range n).flatMap (fun a => (s.drop (64 * (a + 1))).take 64) = (List.range n).flatMap (fun i => ((s.drop 64).drop (64 * i)).take 64) := by
        congr 1; funext i; rw [List.drop_drop]; congr 2; omega
      show (s.drop (64 * 0)).take 64 ++ (List.range n).flatMap (fun a => (s.drop (64 * (a + 1))).take 64) = _
      rw [e, ih (s.drop 64) (by rw [List.length_drop]; omega), Nat.mul_zero, List.drop_zero, List.take_append_drop]
  apply bl_inj
  rw [join_bl, cutK, List.flatMap_map]
  have := key (s.size / 64) (bl s) (by rw [bl_length]; omega)
  conv => rhs; rw [← this]
  congr 1
  funext i
  rw [bl_extract, show 64 * i + 64 - 64 * i = 64 by omega]
theorem layB_inj {s t : ByteArray} (hs : s.size ≤ 12000) (ht : t.size ≤ 12000) (h : joinK (layK s) = joinK (layK t)) : s = t := by
  have h2 := congrArg cutK h
  rw [cut_join _ (layK_size s), cut_join _ (layK_size t)] at h2
  exact layK_inj hs ht (r := []) (by rw [List.append_nil]; exact h2)
theorem layB_head {s t : ByteArray} (hs : s.size ≤ 12000) (ht : t.size ≤ 12000) (hle : (joinK (layK s)).size ≤ (joinK (layK t)).size) (h : (joinK (layK t)).extract 0 (joinK (layK s)).size = joinK (layK s)) : s = t := by
  rw [joinK_size _ (layK_size s), joinK_size _ (layK_size t)] at hle
  rw [joinK_size _ (layK_size s)] at h
  refine layK_inj hs ht (r := (layK t).drop (layK s).length) ?_
  have e : layK s = (layK t).take (layK s).length := by
    apply List.ext_getElem
    · rw [List.length_take]; omega
    · intro i h1 h2
      have a := join_at _ (layK_size s) i h1
      rw [List.getElem_take, ← join_at _ (layK_size t) i (by omega), ← a, ← h, cut_cut, Nat.min_eq_left (by omega)]
      simp
  conv => lhs; lhs; rw [e]
  rw [List.take_append_drop]
theorem spoilt {s : ByteArray} (hs : s.size ≤ 12000) {b : ByteArray} (hb : b.size = (joinK (layK s)).size) (h : recsK (cutK b) = [s]) : b = joinK (layK s) := by
  have h2 := recs_one h
  rw [joinK_size _ (layK_size s), layK_length] at hb
  rw [List.take_of_length_le (by rw [cutK_length]; omega)] at h2
  rw [← h2, join_cut b (by omega)]
theorem scanK_rest : ∀ (f : Nat) (l : List ByteArray), (scanK f l).2.length ≤ l.length := by
  intro f
  induction f with
  | zero => intro l; exact Nat.le_refl _
  | succ f ih =>
    intro l
    rw [scanK]
    cases firstK l with
    | none => exact Nat.le_refl _
    | some s =>
      have := ih (l.drop (manyK s.size))
      rw [List.length_drop] at this
      simp only
      omega
theorem rest_le (l : List ByteArray) : (restK l).length ≤ l.length := scanK_rest _ _
end Go.Proofs.Ytpcanlafbcdmcaa
