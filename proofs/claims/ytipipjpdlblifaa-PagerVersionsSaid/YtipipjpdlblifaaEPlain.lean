/-
  Plain facts of indices: Few, Put.
-/
import Derived.Test.YtipipjpdlblifaaEPut3
namespace Go.Proofs.Ytipipjpdlblifaa
open Go.ChangeShapes Go.WideShapes Go.ChangeAt Go.RowKit
set_option linter.unusedVariables false
set_option linter.unusedSimpArgs false

theorem oneV_id (v : Ver) : oneV (oneV v) = oneV v := by
  have := oneV_size v
  conv => lhs; rw [oneV]
  rw [if_neg (by omega)]
theorem few_few (l : List Ver) : fewV (fewV l) = fewV l := by
  have h := fewV_len l
  conv => lhs; rw [fewV]
  rw [List.take_of_length_le h, fewV, List.map_map]
  apply List.map_congr_left
  intro x _
  exact oneV_id x
theorem fewS_id (s : ByteArray) : fewS (fewS s) = fewS s := by
  have := fewS_size s
  conv => lhs; rw [fewS]
  rw [if_neg (by omega)]
theorem oneE_id (e : Ent) : oneE (oneE e) = oneE e := ent_ext (fewS_id _) (few_few _)
theorem fewE_len (l : List Ent) : (fewE l).length ≤ 61 := by rw [fewE, List.length_map, List.length_take]; omega
theorem fewE_few (l : List Ent) : fewE (fewE l) = fewE l := by
  have h := fewE_len l
  conv => lhs; rw [fewE]
  rw [List.take_of_length_le h, fewE, List.map_map]
  apply List.map_congr_left
  intro x _
  exact oneE_id x
theorem fewV_data {l : List Ver} : ∀ x ∈ fewV l, x.data.size ≤ 2001 := by
  intro x hx
  rw [fewV, List.mem_map] at hx
  obtain ⟨y, -, rfl⟩ := hx
  exact oneV_size y
theorem fewE_mem {l : List Ent} {e : Ent} (h : e ∈ fewE l) : ∃ y ∈ l, e = oneE y := by
  rw [fewE, List.mem_map] at h
  obtain ⟨y, hy, rfl⟩ := h
  exact ⟨y, List.mem_of_mem_take hy, rfl⟩
/-- What is looked at is small. -/
def Tiny (e : Ent) : Prop := e.key.size ≤ 80 ∧ e.L.length ≤ 21 ∧ ∀ x ∈ e.L, x.data.size ≤ 2001
theorem oneE_tiny (e : Ent) : Tiny (oneE e) := ⟨fewS_size _, fewV_len _, fewV_data⟩
theorem fewE_tiny (l : List Ent) : ∀ e ∈ fewE l, Tiny e := by
  intro e h
  obtain ⟨y, -, rfl⟩ := fewE_mem h
  exact oneE_tiny y
theorem tiny_small {l : List Ent} (h : l.length ≤ 1000) (k : ∀ e ∈ l, Tiny e) : Small l := ⟨h, fun e he => ⟨by have := (k e he).1; omega, by have := (k e he).2.1; omega, fun x hx => by have := (k e he).2.2 x hx; omega⟩⟩
theorem small_nil : Small [] := ⟨by simp, by simp⟩

theorem okP_nil : okP [] := ⟨by simp, fun i => by simp [stepOk, tmOk, pairsTo]⟩
theorem okI_iff {l : List Ent} : okI l ↔ l.length ≤ 60 ∧ Rise l ∧ ∀ e ∈ l, hasO 1 60 ko e.key = true ∧ 0 < e.L.length ∧ okP e.L := by
  constructor
  · intro h
    refine ⟨h.1, okI_rise h, fun e he => ?_⟩
    obtain ⟨k, hk, rfl⟩ := List.getElem_of_mem he
    obtain ⟨a, b, c, -⟩ := h.2 k hk
    exact ⟨a, b, c⟩
  · rintro ⟨h1, h2, h3⟩
    refine ⟨h1, fun i hi => ?_⟩
    obtain ⟨a, b, c⟩ := h3 _ (List.getElem_mem hi)
    exact ⟨a, b, c, fun j hj => (List.pairwise_iff_getElem.1 h2) j i (by omega) hi (by omega)⟩
theorem ltB_key {a b : ByteArray} (h : a ≠ b) : ltB a b = true ∨ ltB b a = true := by
  cases k : ltB a b with
  | true => exact .inl rfl
  | false => exact .inr (ltB_total h k)
theorem putE_iff {l : List Ent} {key : ByteArray} {m : List Ver} {e : Ent} : e ∈ putE l key m ↔ (e ∈ l ∧ e.key ≠ key) ∨ (e = ⟨key, m⟩ ∧ m ≠ []) := by
  rw [putE_one]
  constructor
  · intro h
    rcases List.mem_append.1 h with h | h
    · rcases List.mem_append.1 h with h | h
      · obtain ⟨h1, h2⟩ := List.mem_filter.1 h
        exact .inl ⟨h1, ltB_ne h2⟩
      · right
        unfold oneK at h
        split at h
        · simp at h
        · rename_i k; exact ⟨by simpa using h, k⟩
    · obtain ⟨h1, h2⟩ := List.mem_filter.1 h
      exact .inl ⟨h1, (ltB_ne h2).symm⟩
  · rintro (⟨h1, h2⟩ | ⟨rfl, h2⟩)
    · rcases ltB_key h2 with h | h
      · exact List.mem_append.2 (.inl (List.mem_append.2 (.inl (List.mem_filter.2 ⟨h1, h⟩))))
      · exact List.mem_append.2 (.inr (List.mem_filter.2 ⟨h1, h⟩))
    · refine List.mem_append.2 (.inl (List.mem_append.2 (.inr ?_)))
      rw [oneK, if_neg h2]; simp
theorem rise_put {l : List Ent} (h : Rise l) (key : ByteArray) (m : List Ver) : Rise (putE l key m) := by
  rw [putE_one]
  have h1 : ∀ x ∈ oneK key m, x.key = key := by
    intro x hx
    unfold oneK at hx
    split at hx
    · simp at hx
    · have : x = ⟨key, m⟩ := by simpa using hx
      rw [this]
  refine List.pairwise_append.2 ⟨List.pairwise_append.2 ⟨h.filter _, ?_, ?_⟩, h.filter _, ?_⟩
  · unfold oneK; split <;> simp
  · intro x hx y hy
    rw [h1 y hy]; exact (List.mem_filter.1 hx).2
  · intro x hx y hy
    have hy2 : ltB key y.key = true := (List.mem_filter.1 hy).2
    rcases List.mem_append.1 hx with hx | hx
    · exact ltB_trans (List.mem_filter.1 hx).2 hy2
    · rw [h1 x hx]; exact hy2
theorem okI_put {l : List Ent} {key : ByteArray} {m : List Ver} (h : okI l) (hk : hasO 1 60 ko key = true) (hm : okP m) (hl : (putE l key m).length ≤ 60) : okI (putE l key m) := by
  obtain ⟨h1, h2, h3⟩ := okI_iff.1 h
  refine okI_iff.2 ⟨hl, rise_put h2 key m, fun e he => ?_⟩
  rcases putE_iff.1 he with ⟨he, -⟩ | ⟨rfl, hne⟩
  · exact h3 e he
  · exact ⟨hk, List.length_pos_iff.2 hne, hm⟩
theorem rise_ext {a b : List Ent} (ha : Rise a) (hb : Rise b) (h : ∀ e, e ∈ a ↔ e ∈ b) : a = b := by
  induction a generalizing b with
  | nil =>
    cases b with
    | nil => rfl
    | cons y s => exact absurd ((h y).2 (by simp)) (by simp)
  | cons x r ih =>
    cases b with
    | nil => exact absurd ((h x).1 (by simp)) (by simp)
    | cons y s =>
      obtain ⟨a1, a2⟩ := List.pairwise_cons.1 ha
      obtain ⟨b1, b2⟩ := List.pairwise_cons.1 hb
      have hxy : x = y := by
        rcases List.mem_cons.1 ((h x).1 (by simp)) with e | hx
        · exact e
        · rcases List.mem_cons.1 ((h y).2 (by simp)) with e | hy
          · exact e.symm
          · have k1 := b1 x hx
            have k2 := a1 y hy
            rw [ltB_asymm k1] at k2
            exact absurd k2 (by simp)
      subst hxy
      rw [ih a2 b2 fun e => ?_]
      constructor
      · intro he
        rcases List.mem_cons.1 ((h e).1 (List.mem_cons_of_mem _ he)) with rfl | h'
        · exact absurd (a1 e he) (by rw [ltB_irrefl]; simp)
        · exact h'
      · intro he
        rcases List.mem_cons.1 ((h e).2 (List.mem_cons_of_mem _ he)) with rfl | h'
        · exact absurd (b1 e he) (by rw [ltB_irrefl]; simp)
        · exact h'
theorem put_turn {l : List Ent} {a b : ByteArray} {m n : List Ver} (h : Rise l) (hab : a ≠ b) : putE (putE l a m) b n = putE (putE l b n) a m := by
  refine rise_ext (rise_put (rise_put h _ _) _ _) (rise_put (rise_put h _ _) _ _) fun e => ?_
  rw [putE_iff, putE_iff, putE_iff, putE_iff]
  constructor
  · rintro (⟨⟨h1, h2⟩ | ⟨rfl, h2⟩, h3⟩ | ⟨rfl, h2⟩)
    · exact .inl ⟨.inl ⟨h1, h3⟩, h2⟩
    · exact .inr ⟨rfl, h2⟩
    · exact .inl ⟨.inr ⟨rfl, h2⟩, hab.symm⟩
  · rintro (⟨⟨h1, h2⟩ | ⟨rfl, h2⟩, h3⟩ | ⟨rfl, h2⟩)
    · exact .inl ⟨.inl ⟨h1, h3⟩, h2⟩
    · exact .inr ⟨rfl, h2⟩
    · exact .inl ⟨.inr ⟨rfl, h2⟩, hab⟩
theorem rise_one {l : List Ent} (h : Rise l) {e f : Ent} (he : e ∈ l) (hf : f ∈ l) (k : e.key = f.key) : e = f := by
  obtain ⟨i, hi, rfl⟩ := List.getElem_of_mem he
  obtain ⟨j, hj, rfl⟩ := List.getElem_of_mem hf
  have hp := List.pairwise_iff_getElem.1 h
  rcases Nat.lt_trichotomy i j with hij | hij | hij
  · have := hp i j hi hj hij
    rw [k, ltB_irrefl] at this; simp at this
  · subst hij; rfl
  · have := hp j i hj hi hij
    rw [k, ltB_irrefl] at this; simp at this
theorem getE_in {l : List Ent} (h : Rise l) {e : Ent} (he : e ∈ l) : getE l e.key = e.L := by
  rcases where_key l e.key with ⟨-, hk⟩ | ⟨i, hlt, -, hk, hkj⟩
  · obtain ⟨j, hj, e'⟩ := List.getElem_of_mem he
    exact absurd (by rw [e']) (hk j hj)
  · rw [getE_at hlt hk hkj, rise_one h (List.getElem_mem hlt) he hk]
theorem getE_out {l : List Ent} {key : ByteArray} (h : ∀ e ∈ l, e.key ≠ key) : getE l key = [] := getE_none fun j hl => h _ (List.getElem_mem hl)
theorem getE_put {l : List Ent} (h : Rise l) (key : ByteArray) (m : List Ver) : getE (putE l key m) key = m := by
  by_cases hm : m = []
  · rw [getE_out, hm]
    intro e he
    rcases putE_iff.1 he with ⟨-, k⟩ | ⟨-, k⟩
    · exact k
    · exact absurd hm k
  · exact getE_in (rise_put h key m) (putE_iff.2 (.inr ⟨rfl, hm⟩))
theorem getE_other {l : List Ent} (h : Rise l) {key other : ByteArray} (m : List Ver) (k : other ≠ key) : getE (putE l key m) other = getE l other := by
  by_cases hx : ∃ e ∈ l, e.key = other
  · obtain ⟨e, he, rfl⟩ := hx
    rw [getE_in h he, getE_in (rise_put h key m) (putE_iff.2 (.inl ⟨he, k⟩))]
  · have hx : ∀ e ∈ l, e.key ≠ other := fun e he hk => hx ⟨e, he, hk⟩
    rw [getE_out hx, getE_out]
    intro e he
    rcases putE_iff.1 he with ⟨he, -⟩ | ⟨rfl, -⟩
    · exact hx e he
    · exact k.symm
theorem put_back {l : List Ent} (h : okI l) (key : ByteArray) (m : List Ver) : putE (putE l key m) key (getE l key) = l := by
  obtain ⟨h1, h2, h3⟩ := okI_iff.1 h
  refine rise_ext (rise_put (rise_put h2 _ _) _ _) h2 fun e => ?_
  rw [putE_iff, putE_iff]
  constructor
  · rintro (⟨⟨k1, -⟩ | ⟨rfl, -⟩, k3⟩ | ⟨rfl, k2⟩)
    · exact k1
    · exact absurd rfl k3
    · by_cases hx : ∃ e ∈ l, e.key = key
      · obtain ⟨e, he, rfl⟩ := hx
        rw [getE_in h2 he]; exact he
      · exact absurd (getE_out fun e he hk => hx ⟨e, he, hk⟩) k2
  · intro he
    by_cases hk : e.key = key
    · subst hk
      right
      rw [getE_in h2 he]
      exact ⟨rfl, List.length_pos_iff.1 (h3 e he).2.1⟩
    · exact .inl ⟨.inl ⟨he, hk⟩, hk⟩
theorem put_own {l : List Ent} (h : okI l) (key : ByteArray) : putE l key (getE l key) = l := by
  obtain ⟨h1, h2, h3⟩ := okI_iff.1 h
  refine rise_ext (rise_put h2 _ _) h2 fun e => ?_
  rw [putE_iff]
  constructor
  · rintro (⟨k1, -⟩ | ⟨rfl, k2⟩)
    · exact k1
    · by_cases hx : ∃ e ∈ l, e.key = key
      · obtain ⟨e, he, rfl⟩ := hx
        rw [getE_in h2 he]; exact he
      · exact absurd (getE_out fun e he hk => hx ⟨e, he, hk⟩) k2
  · intro he
    by_cases hk : e.key = key
    · subst hk
      right
      rw [getE_in h2 he]
      exact ⟨rfl, List.length_pos_iff.1 (h3 e he).2.1⟩
    · exact .inl ⟨he, hk⟩
theorem getE_okP {l : List Ent} (h : okI l) (key : ByteArray) : okP (getE l key) := by
  obtain ⟨h1, h2, h3⟩ := okI_iff.1 h
  by_cases hx : ∃ e ∈ l, e.key = key
  · obtain ⟨e, he, rfl⟩ := hx
    rw [getE_in h2 he]; exact (h3 e he).2.2
  · rw [getE_out fun e he hk => hx ⟨e, he, hk⟩]; exact okP_nil
theorem getE_what (l : List Ent) (key : ByteArray) : getE l key = [] ∨ ∃ e ∈ l, getE l key = e.L := by
  rcases where_key l key with ⟨-, hk⟩ | ⟨i, hlt, -, hk, hkj⟩
  · exact .inl (getE_none hk)
  · exact .inr ⟨_, List.getElem_mem hlt, getE_at hlt hk hkj⟩
theorem atE_put (l : List Ent) (key : ByteArray) (m : List Ver) : atE (putE l key m) key = atE l key := by
  have h1 : (l.filter fun e => ltB e.key key).filter (fun e => ltB e.key key) = l.filter fun e => ltB e.key key := by simp [List.filter_filter]
  have h2 : (oneK key m).filter (fun e => ltB e.key key) = [] := List.filter_eq_nil_iff.2 fun x hx => by
    unfold oneK at hx
    split at hx
    · simp at hx
    · have : x = ⟨key, m⟩ := by simpa using hx
      rw [this]; simp [ltB_irrefl]
  have h3 : (l.filter fun e => ltB key e.key).filter (fun e => ltB e.key key) = [] := List.filter_eq_nil_iff.2 fun x hx => by
    have k : ltB key x.key = true := (List.mem_filter.1 hx).2
    simp [ltB_asymm k]
  rw [atE, atE, putE_one, List.filter_append, List.filter_append, h1, h2, h3]; simp
theorem put_at (l : List Ent) (key : ByteArray) {m : List Ver} (hm : m ≠ []) : ∃ h : atE l key < (putE l key m).length, (putE l key m)[atE l key] = ⟨key, m⟩ := by
  have hone : oneK key m = [⟨key, m⟩] := by rw [oneK, if_neg hm]
  have h : atE l key < (putE l key m).length := by
    rw [putE_one, hone, List.length_append, List.length_append, atE]; simp; omega
  refine ⟨h, ?_⟩
  have : (putE l key m)[atE l key]? = some ⟨key, m⟩ := by
    rw [putE_one, hone, List.append_assoc, List.getElem?_append_right (by rw [atE]; exact Nat.le_refl _)]
    simp [atE]
  rw [List.getElem?_eq_getElem h] at this
  injection this
theorem atE_own {l : List Ent} (h : Rise l) {k : Nat} (hk : k < l.length) : atE l l[k].key = k := by
  have hp := List.pairwise_iff_getElem.1 h
  have h1 : (l.take k).filter (fun e => ltB e.key l[k].key) = l.take k := List.filter_eq_self.2 fun e he => by
    obtain ⟨i, hi, rfl⟩ := List.getElem_of_mem he
    rw [List.length_take] at hi
    rw [List.getElem_take]
    exact hp i k (by omega) hk (by omega)
  have h2 : (l.drop k).filter (fun e => ltB e.key l[k].key) = [] := List.filter_eq_nil_iff.2 fun e he => by
    obtain ⟨i, hi, rfl⟩ := List.getElem_of_mem he
    rw [List.length_drop] at hi
    rw [List.getElem_drop]
    by_cases h0 : i = 0
    · subst h0; simp [ltB_irrefl]
    · have := hp k (k + i) hk (by omega) (by omega)
      simp [ltB_asymm this]
  have h3 : atE l l[k].key = ((l.take k ++ l.drop k).filter (fun e => ltB e.key l[k].key)).length := by rw [List.take_append_drop, atE]
  rw [h3, List.filter_append, h1, h2, List.append_nil, List.length_take]; omega
theorem sum_oneK (key : ByteArray) (m : List Ver) (f : List Ver → Nat) (h0 : f [] = 0) : ((oneK key m).map (fun e => f e.L)).sum = f m := by
  unfold oneK
  split
  · rename_i h; rw [h, h0]; rfl
  · simp
theorem sum_put (l : List Ent) (key : ByteArray) (m : List Ver) (f : List Ver → Nat) (h0 : f [] = 0) : ((putE l key m).map (fun e => f e.L)).sum = ((l.filter fun e => ltB e.key key).map (fun e => f e.L)).sum + f m + ((l.filter fun e => ltB key e.key).map (fun e => f e.L)).sum := by
  rw [putE_one, List.map_append, List.map_append, List.sum_append, List.sum_append, sum_oneK key m f h0]
theorem many_put {l : List Ent} (h : okI l) (key : ByteArray) (m : List Ver) : manyE (putE l key m) + (getE l key).length = manyE l + m.length := by
  have h1 := sum_put l key m List.length rfl
  have h2 := sum_put l key (getE l key) List.length rfl
  rw [put_own h key] at h2
  unfold manyE
  omega
theorem oct_put {l : List Ent} (h : okI l) (key : ByteArray) (m : List Ver) : octE (putE l key m) + octV (getE l key) = octE l + octV m := by
  have h1 := sum_put l key m octV rfl
  have h2 := sum_put l key (getE l key) octV rfl
  rw [put_own h key] at h2
  unfold octE
  omega

theorem putI_len {l : List Ent} {key : ByteArray} {m : List Ver} {L : List Ent} {k : Nat} (h : PutI l key m L k) : L.length ≤ 60 := by
  rcases h with ⟨-, rfl, -⟩ | ⟨-, ⟨-, rfl, -⟩ | ⟨h, rfl, -⟩⟩
  · simp
  · simp
  · exact h
theorem putI_tiny {l : List Ent} {key : ByteArray} {m : List Ver} {L : List Ent} {k : Nat} (h : PutI l key m L k) (hl : ∀ e ∈ l, Tiny e) (hm : Tiny ⟨key, m⟩) : ∀ e ∈ L, Tiny e := by
  rcases h with ⟨-, rfl, -⟩ | ⟨-, ⟨-, rfl, -⟩ | ⟨-, rfl, -⟩⟩
  · simp
  · simp
  · intro e he
    rcases putE_iff.1 he with ⟨he, -⟩ | ⟨rfl, -⟩
    · exact hl e he
    · exact hm
theorem putI_k {l : List Ent} {key : ByteArray} {m : List Ver} {L : List Ent} {k : Nat} (h : PutI l key m L k) : (k = 0 ∧ okI l ∧ hasO 1 60 ko key = true ∧ okP m ∧ L = putE l key m ∧ (putE l key m).length ≤ 60) ∨ (k ≠ 0 ∧ L = [] ∧ (k = 1 ∨ k = 6)) := by
  rcases h with ⟨-, rfl, rfl⟩ | ⟨⟨a, b, c⟩, ⟨-, rfl, rfl⟩ | ⟨h, rfl, rfl⟩⟩
  · exact .inr ⟨by omega, rfl, .inl rfl⟩
  · exact .inr ⟨by omega, rfl, .inr rfl⟩
  · exact .inl ⟨rfl, a, b, c, rfl, h⟩
end Go.Proofs.Ytipipjpdlblifaa
