/-
  Plain facts on groups.
-/
import Derived.Test.YtipipjpdlblifaaNGroups
namespace Go.Proofs.Ytipipjpdlblifaa
set_option linter.unusedVariables false
open Go.ChangeShapes Go.WideShapes Go.ChangeAt Go.RowKit

theorem toList_inj {a b : ByteArray} (h : a.toList = b.toList) : a = b := by
  rw [ByteArray.toList_eq, ByteArray.toList_eq] at h
  obtain ⟨⟨x⟩⟩ := a
  obtain ⟨⟨y⟩⟩ := b
  simp at h
  rw [h]
theorem length_toList (s : ByteArray) : s.toList.length = s.size := by rw [ByteArray.toList_eq]; exact Array.length_toList
theorem under_iff {k p : ByteArray} : underO k p = true ↔ p.size ≤ k.size ∧ k.extract 0 p.size = p := by
  unfold underO
  simp only [Bool.and_eq_true, decide_eq_true_eq, beq_iff_eq]
  exact ⟨fun h => ⟨h.1, toList_inj h.2⟩, fun h => ⟨h.1, by rw [h.2]⟩⟩
theorem under_get {k p : ByteArray} (h : underO k p = true) {j : Nat} (hj : j < p.size) (hk : j < k.size) : p[j] = k[j] := by
  obtain ⟨h1, h2⟩ := under_iff.1 h
  have e : ∀ (q : ByteArray) (hq : j < q.size), q = k.extract 0 p.size → q[j] = k[j] := by
    intro q hq e; subst e; simp [ByteArray.getElem_extract]
  exact e p hj h2.symm
theorem extract_extract0 (k : ByteArray) (m n : Nat) (h : m ≤ n) : (k.extract 0 n).extract 0 m = k.extract 0 m := by
  rw [ByteArray.extract_extract]; simp [Nat.min_eq_left h]
theorem cut0_size (k : ByteArray) {n : Nat} (h : n ≤ k.size) : (k.extract 0 n).size = n := by simp; omega
theorem under_cut (k : ByteArray) {n : Nat} (h : n ≤ k.size) : underO k (k.extract 0 n) = true := by
  rw [under_iff, cut0_size k h]; exact ⟨h, rfl⟩
theorem under_trans {k g p : ByteArray} (h : underO k g = true) (h' : underO g p = true) : underO k p = true := by
  obtain ⟨a, b⟩ := under_iff.1 h
  obtain ⟨c, d⟩ := under_iff.1 h'
  rw [under_iff]
  refine ⟨by omega, ?_⟩
  rw [← d]
  conv => rhs; rw [← b]
  rw [extract_extract0 k _ _ c]
  have : (g.extract 0 p.size).size = p.size := cut0_size g c
  rw [this]
theorem under_less {k p : ByteArray} {n : Nat} (h : underO k p = true) (hp : p.size ≤ n) (hn : n ≤ k.size) : underO (k.extract 0 n) p = true := by
  obtain ⟨a, b⟩ := under_iff.1 h
  rw [under_iff, cut0_size k hn]
  exact ⟨hp, by rw [extract_extract0 k _ _ hp]; exact b⟩
theorem under_append (g m : ByteArray) : underO (g ++ m) g = true := by
  rw [under_iff]
  refine ⟨by rw [ByteArray.size_append]; omega, ?_⟩
  exact ByteArray.extract_append_eq_left rfl
theorem under_self (g : ByteArray) : underO g g = true := by
  rw [under_iff]; exact ⟨Nat.le_refl _, by simp⟩

theorem okG_iff {k p d : ByteArray} : okG k p d = true ↔ hasO 1 60 ko k = true ∧ hasO 0 60 ko p = true ∧ hasO 0 1 ko d = true ∧ 0 < d.size ∧ underO k p = true := by
  unfold okG; simp only [Bool.and_eq_true, decide_eq_true_eq]; constructor
  · rintro ⟨⟨⟨⟨a, b⟩, c⟩, e⟩, f⟩; exact ⟨a, b, c, e, f⟩
  · rintro ⟨a, b, c, e, f⟩; exact ⟨⟨⟨⟨a, b⟩, c⟩, e⟩, f⟩

/-- What is known of a group that there is: the delimiter stands at place i, and nowhere between. -/
theorem group_is {k p d g : ByteArray} (h : groupO k p d = (g, true)) :
    okG k p d = true ∧ ∃ (i : Nat) (hi : i < k.size) (hd : 0 < d.size), p.size ≤ i ∧ g = k.extract 0 (i + 1) ∧ k[i] = d[0] ∧ noTo k d[0] p.size i := by
  cases ho : okG k p d with
  | false => rw [groupO_no ho] at h; simp at h
  | true =>
    refine ⟨rfl, ?_⟩
    obtain ⟨a, b, c, e, f⟩ := okG_iff.1 ho
    unfold groupO at h
    simp only [ho, if_true] at h
    rw [head_at d e] at h
    cases hx : idxO k d[0] p.size with
    | none => rw [hx] at h; simp at h
    | some i =>
      rw [hx] at h
      simp at h
      obtain ⟨hi, h1, h2, h3⟩ := idxO_spec hx
      exact ⟨i, hi, e, h1, h.symm, h2, h3⟩
theorem group_not {k p d g : ByteArray} (h : groupO k p d = (g, false)) (ho : okG k p d = true) (hd : 0 < d.size) : noTo k d[0] p.size k.size := by
  unfold groupO at h
  simp only [ho, if_true] at h
  rw [head_at d hd] at h
  cases hx : idxO k d[0] p.size with
  | some i => rw [hx] at h; simp at h
  | none =>
    unfold idxO at hx
    rw [List.find?_range_eq_none] at hx
    intro j hj a b e
    have := hx j hj
    rw [getD_at k hj] at this
    simp [a, e] at this
theorem group_false {k p d g : ByteArray} (h : groupO k p d = (g, false)) : g = ByteArray.empty := by
  unfold groupO at h
  split at h
  · split at h <;> simp at h
    exact h.symm
  · simp at h; exact h.symm

theorem hasO_cut {k : ByteArray} {lo : Nat} (h : hasO lo 60 ko k = true) {n : Nat} (hn : n ≤ k.size) {l : Nat} (hl : l ≤ n) : hasO l 60 ko (k.extract 0 n) = true := by
  have hz := hasO_size h
  unfold hasO allO at *
  simp only [Bool.and_eq_true, decide_eq_true_eq, List.all_eq_true] at *
  rw [cut0_size k hn]
  refine ⟨⟨hl, by omega⟩, ?_⟩
  intro c hc
  refine h.2 c ?_
  have e : (k.extract 0 n).data.toList = k.data.toList.take n := by simp
  rw [e] at hc
  exact List.mem_of_mem_take hc

/-- All keys that begin with a group have it. -/
theorem group_shares {k p d g k' : ByteArray} (h : groupO k p d = (g, true)) (hk : hasO 1 60 ko k' = true) (hu : underO k' g = true) : groupO k' p d = (g, true) := by
  obtain ⟨ho, i, hi, hd, h1, rfl, h2, h3⟩ := group_is h
  obtain ⟨a, b, c, e, f⟩ := okG_iff.1 ho
  have hg : (k.extract 0 (i + 1)).size = i + 1 := cut0_size k (by omega)
  have hs := under_size hu
  have gu : underO (k.extract 0 (i + 1)) p = true := under_less f (by omega) (by omega)
  have ku : underO k (k.extract 0 (i + 1)) = true := under_cut k (by omega)
  have ho' : okG k' p d = true := okG_iff.2 ⟨hk, b, c, e, under_trans hu gu⟩
  have same : ∀ j (hj : j < i + 1), k'[j]'(by omega) = k[j]'(by omega) := by
    intro j hj
    rw [← under_get hu (j := j) (by omega) (by omega), ← under_get ku (j := j) (by omega) (by omega)]
  have hu2 := (under_iff.1 hu).2
  rw [hg] at hu2
  rw [groupO_some ho' hd (i := i) (by omega) h1 (by rw [same i (by omega)]; exact h2) (by
    intro j hj p1 p2
    rw [same j (by omega)]
    exact h3 j (by omega) p1 p2), hu2]

/-- One octet of a text, held against a delimiter. -/
theorem one_at {g d : ByteArray} {j : Nat} (hj : j < g.size) (hd : d.size = 1) : ((g.extract j (j + 1)).toList == d.toList) = decide (g[j] = d[0]) := by
  have e1 : (g.extract j (j + 1)).toList = [g[j]] := by
    rw [ByteArray.toList_eq]
    obtain ⟨⟨l⟩⟩ := g
    have hl : j < l.length := hj
    show ((ByteArray.mk ⟨l⟩).extract j (j + 1)).data.toList = [l[j]]
    simp only [ByteArray.data_extract, Array.toList_extract]
    rw [List.extract_eq_take_drop, show j + 1 - j = 1 from by omega, List.drop_eq_getElem_cons hl]
    rfl
  have e2 : d.toList = [d[0]] := by
    rw [ByteArray.toList_eq]
    obtain ⟨⟨l⟩⟩ := d
    match l, hd with
    | [x], _ => rfl
  rw [e1, e2, Bool.eq_iff_iff]
  simp

/-- What the statement on shares asks of a group that there is. -/
theorem share_facts {k p d g : ByteArray} (h : groupO k p d = (g, true)) :
    p.size < g.size ∧ g.size ≤ k.size ∧ underO g p = true ∧ underO k g = true ∧ ((g.extract (g.size - 1) g.size).toList == d.toList) = true ∧
    (∀ n, p.size ≤ n → n + 1 < g.size → ((g.extract n (n + 1)).toList == d.toList) = false) ∧ groupO g p d = (g, true) := by
  obtain ⟨ho, i, hi, hd, h1, e, h2, h3⟩ := group_is h
  obtain ⟨a, b, c, _, f⟩ := okG_iff.1 ho
  have d1 : d.size = 1 := by have := hasO_size c; omega
  have hg : g.size = i + 1 := by rw [e]; exact cut0_size k (by omega)
  have ku : underO k g = true := by rw [e]; exact under_cut k (by omega)
  refine ⟨by omega, by omega, by rw [e]; exact under_less f (by omega) (by omega), ku, ?_, ?_, ?_⟩
  · have := one_at (g := g) (d := d) (j := i) (by omega) d1
    rw [hg]
    rw [Nat.add_sub_cancel, this, under_get ku (j := i) (by omega) (by omega)]
    simp [h2]
  · intro n n1 n2
    rw [one_at (by omega) d1, under_get ku (j := n) (by omega) (by omega)]
    simpa using h3 n (by omega) n1 (by omega)
  · exact group_shares h (by rw [e]; exact hasO_cut a (by omega) (by omega)) (under_self g)
end Go.Proofs.Ytipipjpdlblifaa
