/-
  Layer 14 in plain words: a record's blocks, what is scanned of blocks, a tail.
-/
import Derived.Test.YtpcanlafbcdmcaaCore
namespace Go.Proofs.Ytpcanlafbcdmcaa
set_option maxRecDepth 100000
set_option linter.unusedVariables false
set_option linter.unusedSimpArgs false

/-- How many blocks a record of so many octets has. -/
def manyK (n : Nat) : Nat := if n ≤ 12000 then (n + 61) / 60 else 0
theorem manyK_pos {n : Nat} (h : n ≤ 12000) : 0 < manyK n := by unfold manyK; rw [if_pos h]; omega
theorem manyK_le (n : Nat) : manyK n ≤ 201 := by unfold manyK; split <;> omega
theorem manyK_room {n : Nat} (h : n ≤ 12000) : n + 2 ≤ 60 * manyK n := by unfold manyK; rw [if_pos h]; omega
theorem manyK_low {n : Nat} (h : n ≤ 12000) : 60 * manyK n ≤ n + 61 := by unfold manyK; rw [if_pos h]; omega
/-- A record with its size ahead. -/
def heldK (s : List UInt8) : List UInt8 := (s.length % 256).toUInt8 :: (s.length / 256 % 256).toUInt8 :: s
theorem heldK_length (s : List UInt8) : (heldK s).length = s.length + 2 := rfl
/-- Sixty octets, with noughts behind. -/
def padK (l : List UInt8) : List UInt8 := l.take 60 ++ List.replicate (60 - l.length) 0
theorem padK_length (l : List UInt8) : (padK l).length = 60 := by
  rw [padK, List.length_append, List.length_take, List.length_replicate]; omega
/-- A block's last octets. -/
def footK (place follow : Nat) : List UInt8 := [(follow % 256).toUInt8, (follow / 256 % 256).toUInt8, if place = 0 then 1 else 2, 165]
theorem footK_length (p f : Nat) : (footK p f).length = 4 := rfl
/-- The block of a record at a place. -/
def blkK (s : List UInt8) (i : Nat) : List UInt8 := padK ((heldK s).drop (60 * i)) ++ footK i (manyK s.length - 1 - i)
theorem blkK_length (s : List UInt8) (i : Nat) : (blkK s i).length = 64 := by rw [blkK, List.length_append, padK_length, footK_length]
/-- A record's blocks. -/
def layK (s : ByteArray) : List ByteArray := (List.range (manyK s.size)).map fun i => mk (blkK (bl s) i)
theorem layK_length (s : ByteArray) : (layK s).length = manyK s.size := by rw [layK, List.length_map, List.length_range]
theorem layK_get (s : ByteArray) (i : Nat) (h : i < (layK s).length) : (layK s)[i] = mk (blkK (bl s) i) := by simp [layK]
theorem layK_size (s : ByteArray) : ∀ b ∈ layK s, b.size = 64 := by
  intro b hb
  obtain ⟨i, -, rfl⟩ := List.mem_map.1 hb
  rw [mk_size, blkK_length]
/-- Texts, one behind the other. -/
def joinK (l : List ByteArray) : ByteArray := mk (l.flatMap bl)
theorem joinK_size : ∀ (l : List ByteArray) (h : ∀ b ∈ l, b.size = 64), (joinK l).size = 64 * l.length
  | [], _ => rfl
  | b :: r, h => by
    have ih := joinK_size r (fun x hx => h x (List.mem_cons_of_mem _ hx))
    have h0 := h b (List.mem_cons_self ..)
    rw [joinK, mk_size] at ih ⊢
    rw [List.flatMap_cons, List.length_append, ih, bl_length, h0, List.length_cons]; omega
/-- The first sixty octets of each, one behind the other. -/
def bodyK (l : List ByteArray) : List UInt8 := l.flatMap fun b => (bl b).take 60
theorem bodyK_length : ∀ (l : List ByteArray) (h : ∀ b ∈ l, b.size = 64), (bodyK l).length = 60 * l.length
  | [], _ => rfl
  | b :: r, h => by
    have ih := bodyK_length r (fun x hx => h x (List.mem_cons_of_mem _ hx))
    have h0 := h b (List.mem_cons_self ..)
    rw [bodyK] at ih ⊢
    rw [List.flatMap_cons, List.length_append, ih, List.length_take, bl_length, h0, List.length_cons]; omega
/-- An octet of a text. -/
def atK (b : ByteArray) (i : Nat) : Nat := ((bl b)[i]?.getD 0).toNat
theorem atK_lt (b : ByteArray) (i : Nat) : atK b i < 256 := UInt8.toNat_lt _
/-- How many octets the first block tells. -/
def numK (b : ByteArray) : Nat := atK b 0 + 256 * atK b 1
/-- The record whose blocks stand first, if it stands there whole. -/
def firstK (l : List ByteArray) : Option ByteArray :=
  match l with
  | [] => none
  | b :: _ =>
    let n := numK b
    let k := manyK n
    if k = 0 ∨ l.length < k then none
    else
      let s := mk (((bodyK (l.take k)).drop 2).take n)
      if layK s = l.take k then some s else none
theorem firstK_nil : firstK [] = none := rfl
/-- Blocks of whole records, and what is left. -/
def scanK : Nat → List ByteArray → List ByteArray × List ByteArray
  | 0, l => ([], l)
  | f + 1, l => match firstK l with
    | none => ([], l)
    | some s => ((s :: (scanK f (l.drop (manyK s.size))).1), (scanK f (l.drop (manyK s.size))).2)
/-- How many follow, by a block's last octets. -/
def folK (b : ByteArray) : Nat := atK b 60 + 256 * atK b 61
/-- A block's last octets. -/
def endK (b : ByteArray) : List UInt8 := (bl b).drop 60
/-- Is it a tail? -/
def tailK (l : List ByteArray) : Bool :=
  match l with
  | [] => false
  | b :: _ =>
    decide (l.length - 1 ≤ folK b) && (List.range (l.length - 1)).all (fun i => decide ((l[i]?.map endK) = some (footK i (folK b - i))))
      && (decide (¬ (l[l.length - 1]?.map (atK · 63)) = some 165) || (decide (l.length - 1 < folK b) && decide ((l[l.length - 1]?.map endK) = some (footK (l.length - 1) (folK b - (l.length - 1))))))
/-- What Scan tells: the records, how many blocks the tail has, whether it is one. -/
def allK (l : List ByteArray) : List ByteArray × Nat × Bool :=
  let r := scanK l.length l
  if r.2.length = 0 ∨ tailK r.2 = true then (r.1, r.2.length, true) else ([], 0, false)

-- a record's blocks are that record's
theorem padK_all : ∀ (k : Nat) (l : List UInt8), l.length ≤ 60 * k → ((List.range k).flatMap fun i => padK (l.drop (60 * i))) = l ++ List.replicate (60 * k - l.length) 0
  | 0, l, h => by have : l = [] := List.length_eq_zero_iff.1 (by omega); subst this; rfl
  | k + 1, l, h => by
    rw [List.range_succ_eq_map, List.flatMap_cons, List.flatMap_map]
    have ih := padK_all k (l.drop 60) (by rw [List.length_drop]; omega)
    have e : (List.range k).flatMap (fun a => padK (l.drop (60 * (a + 1)))) = (List.range k).flatMap (fun i => padK ((l.drop 60).drop (60 * i))) := by
      congr 1; funext i; rw [List.drop_drop]; congr 2; omega
    show padK (l.drop (60 * 0)) ++ (List.range k).flatMap (fun a => padK (l.drop (60 * (a + 1)))) = _
    rw [e, ih, Nat.mul_zero, List.drop_zero, padK]
    by_cases hl : l.length ≤ 60
    · have : l.drop 60 = [] := List.drop_eq_nil_of_le hl
      rw [List.take_of_length_le hl, this, List.nil_append, List.append_assoc, List.length_nil, List.replicate_append_replicate]
      congr 2; omega
    · rw [show 60 - l.length = 0 by omega, List.replicate_zero, List.append_nil, ← List.append_assoc, List.take_append_drop, List.length_drop]
      congr 2; omega
theorem body_lay (s : ByteArray) (h : s.size ≤ 12000) : bodyK (layK s) = heldK (bl s) ++ List.replicate (60 * manyK s.size - (s.size + 2)) 0 := by
  have h1 := manyK_room h
  have h2 : (heldK (bl s)).length = s.size + 2 := by rw [heldK_length, bl_length]
  rw [← h2, ← padK_all (manyK s.size) (heldK (bl s)) (by omega), bodyK, layK, List.flatMap_map]
  congr 1
  funext i
  rw [bl_mk, blkK, List.take_append_of_le_length (by rw [padK_length]; exact Nat.le_refl _), List.take_of_length_le (by rw [padK_length]; exact Nat.le_refl _)]
theorem lay_cons (s : ByteArray) (h : s.size ≤ 12000) : ∃ r, layK s = mk (blkK (bl s) 0) :: r := by
  have hp := manyK_pos h
  rw [layK, show manyK s.size = (manyK s.size - 1) + 1 by omega, List.range_succ_eq_map, List.map_cons]
  exact ⟨_, rfl⟩
theorem toU8 (n : Nat) : (n % 256).toUInt8.toNat = n % 256 := by simp
theorem num_lay (s : ByteArray) (h : s.size ≤ 12000) : numK (mk (blkK (bl s) 0)) = s.size := by
  have e : ∀ i, i < 2 → (bl (mk (blkK (bl s) 0)))[i]? = (heldK (bl s))[i]? := by
    intro i hi
    rw [bl_mk, blkK, Nat.mul_zero, List.drop_zero, padK, List.append_assoc, List.getElem?_append_left (by rw [List.length_take, heldK_length]; omega), List.getElem?_take_of_lt (by omega)]
  rw [numK, atK, atK, e 0 (by omega), e 1 (by omega)]
  show ((bl s).length % 256).toUInt8.toNat + 256 * ((bl s).length / 256 % 256).toUInt8.toNat = s.size
  rw [toU8, toU8, bl_length]
  omega
theorem first_lay (s : ByteArray) (h : s.size ≤ 12000) (r : List ByteArray) : firstK (layK s ++ r) = some s := by
  obtain ⟨r2, hr⟩ := lay_cons s h
  have e : layK s ++ r = mk (blkK (bl s) 0) :: (r2 ++ r) := by rw [hr]; rfl
  have hl := layK_length s
  have hp := manyK_pos h
  have ht : (layK s ++ r).take (manyK s.size) = layK s := by rw [List.take_append_of_le_length (by omega), List.take_of_length_le (by omega)]
  have hs : mk (((bodyK (layK s)).drop 2).take s.size) = s := by
    rw [body_lay s h]
    show mk ((bl s ++ _).take s.size) = s
    rw [List.take_append_of_le_length (by rw [bl_length]; exact Nat.le_refl _), List.take_of_length_le (by rw [bl_length]; exact Nat.le_refl _), mk_bl]
  rw [e, firstK]
  simp only [num_lay s h, ← e]
  rw [if_neg (by rw [List.length_append]; omega), ht, hs, if_pos rfl]
theorem first_some {l : List ByteArray} {s : ByteArray} (h : firstK l = some s) : s.size ≤ 12000 ∧ manyK s.size ≤ l.length ∧ l.take (manyK s.size) = layK s := by
  cases l with
  | nil => cases h
  | cons b r =>
    rw [firstK] at h
    simp only at h
    split at h
    · cases h
    · rename_i hk
      split at h
      · rename_i he
        injection h with h
        have hl := congrArg List.length he
        rw [layK_length, List.length_take, Nat.min_eq_left (by omega)] at hl
        rw [h] at hl he
        refine ⟨?_, by omega, by rw [hl]; exact he.symm⟩
        apply Classical.byContradiction; intro hn
        have : manyK s.size = 0 := by unfold manyK; rw [if_neg hn]
        omega
      · cases h
theorem scanK_more : ∀ (f : Nat) (l : List ByteArray), l.length ≤ f → scanK f l = scanK l.length l := by
  have key : ∀ (f g : Nat) (l : List ByteArray), l.length ≤ f → l.length ≤ g → scanK f l = scanK g l := by
    intro f
    induction f with
    | zero =>
      intro g l h1 h2
      have : l = [] := List.length_eq_zero_iff.1 (by omega)
      subst this
      cases g <;> rfl
    | succ f ih =>
      intro g l h1 h2
      cases g with
      | zero =>
        have : l = [] := List.length_eq_zero_iff.1 (by omega)
        subst this; rfl
      | succ g =>
        rw [scanK, scanK]
        cases hf : firstK l with
        | none => rfl
        | some s =>
          obtain ⟨a, b, c⟩ := first_some hf
          have hp := manyK_pos a
          simp only
          rw [ih g (l.drop (manyK s.size)) (by rw [List.length_drop]; omega) (by rw [List.length_drop]; omega)]
  exact fun f l h => key f l.length l h (Nat.le_refl _)
/-- All that is scanned. -/
def recsK (l : List ByteArray) : List ByteArray := (scanK l.length l).1
def restK (l : List ByteArray) : List ByteArray := (scanK l.length l).2
theorem recsK_none {l : List ByteArray} (h : firstK l = none) : recsK l = [] ∧ restK l = l := by
  unfold recsK restK
  cases l with
  | nil => exact ⟨rfl, rfl⟩
  | cons b r => rw [List.length_cons, scanK, h]; exact ⟨rfl, rfl⟩
theorem recsK_some {l : List ByteArray} {s : ByteArray} (h : firstK l = some s) : recsK l = s :: recsK (l.drop (manyK s.size)) ∧ restK l = restK (l.drop (manyK s.size)) := by
  obtain ⟨a, b, c⟩ := first_some h
  have hp := manyK_pos a
  unfold recsK restK
  obtain ⟨n, hn⟩ : ∃ n, l.length = n + 1 := ⟨l.length - 1, by omega⟩
  rw [hn, scanK, h]
  simp only
  rw [scanK_more n (l.drop (manyK s.size)) (by rw [List.length_drop]; omega)]
  exact ⟨rfl, rfl⟩
theorem allK_eq (l : List ByteArray) : allK l = if (restK l).length = 0 ∨ tailK (restK l) = true then (recsK l, (restK l).length, true) else ([], 0, false) := rfl
/-- What is whole is scanned first. -/
theorem recs_lay : ∀ (rs : List ByteArray) (h : ∀ s ∈ rs, s.size ≤ 12000) (r : List ByteArray), recsK (rs.flatMap layK ++ r) = rs ++ recsK r ∧ restK (rs.flatMap layK ++ r) = restK r
  | [], _, r => ⟨rfl, rfl⟩
  | s :: rs, h, r => by
    have h0 := h s (List.mem_cons_self ..)
    obtain ⟨i1, i2⟩ := recs_lay rs (fun x hx => h x (List.mem_cons_of_mem _ hx)) r
    rw [List.flatMap_cons, List.append_assoc]
    obtain ⟨a, b⟩ := recsK_some (first_lay s h0 (rs.flatMap layK ++ r))
    rw [List.drop_append_of_le_length (by rw [layK_length]; exact Nat.le_refl _), List.drop_of_length_le (by rw [layK_length]; exact Nat.le_refl _), List.nil_append] at a b
    rw [a, b, i1, i2]
    exact ⟨rfl, rfl⟩
theorem all_lay (rs : List ByteArray) (h : ∀ s ∈ rs, s.size ≤ 12000) : allK (rs.flatMap layK) = (rs, 0, true) := by
  obtain ⟨a, b⟩ := recs_lay rs h []
  rw [List.append_nil] at a b
  rw [allK_eq, a, b]
  simp [recsK, restK, scanK]
theorem all_tail (rs : List ByteArray) (h : ∀ s ∈ rs, s.size ≤ 12000) (r : List ByteArray) (h1 : firstK r = none) (h2 : r.length = 0 ∨ tailK r = true) : allK (rs.flatMap layK ++ r) = (rs, r.length, true) := by
  obtain ⟨a, b⟩ := recs_lay rs h r
  obtain ⟨c, d⟩ := recsK_none h1
  rw [c, List.append_nil] at a
  rw [d] at b
  rw [allK_eq, a, b, if_pos h2]
/-- Blocks of which one record is scanned, and no more blocks than it has, are its blocks. -/
theorem recs_one {l : List ByteArray} {s : ByteArray} (h : recsK l = [s]) : l.take (manyK s.size) = layK s := by
  cases hf : firstK l with
  | none => rw [(recsK_none hf).1] at h; cases h
  | some t =>
    rw [(recsK_some hf).1] at h
    injection h with h1 h2
    subst h1
    exact (first_some hf).2.2
theorem layK_inj {s t : ByteArray} (hs : s.size ≤ 12000) (ht : t.size ≤ 12000) {r : List ByteArray} (h : layK s ++ r = layK t) : s = t := by
  have a := first_lay s hs r
  have b := first_lay t ht []
  rw [List.append_nil, ← h, a] at b
  injection b
end Go.Proofs.Ytpcanlafbcdmcaa
