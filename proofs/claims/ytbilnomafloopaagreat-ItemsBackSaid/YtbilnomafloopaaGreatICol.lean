/-
  What is gathered of a map's entries, in whatever order they come; what a sort makes of it.
-/
import Derived.Test.YtbilnomafloopaaGreatIProg
namespace Go.Proofs.YtbilnomafloopaaGreat
set_option maxRecDepth 100000
open Go.ChangeShapes Go.WideShapes Go.ChangeAt Go.RowKit
open Go.ChangeMaps (setBlock)
set_option linter.unusedVariables false
set_option linter.unusedSimpArgs false

/-- Of the entries that have come, just these. -/
def ColI (es : Array MapEntry) (seen : Array Nat) (acc : List Itm) : Prop :=
  acc.length + (leftOf es seen).size ≤ es.size ∧ (∀ x ∈ acc, ∃ e ∈ es.toList, seen.contains e.born = true ∧ e.key = .string x.n ∧ e.val = itm x) ∧
  (∀ e ∈ es.toList, seen.contains e.born = true → ∃ x ∈ acc, e.key = .string x.n ∧ e.val = itm x) ∧ acc.Pairwise (fun x y => x.n ≠ y.n)
theorem ColI.nil (es : Array MapEntry) : ColI es #[] [] := by
  refine ⟨?_, by simp, fun e he h => by simp at h, List.Pairwise.nil⟩
  simp only [List.length_nil, Nat.zero_add]
  exact Array.size_filter_le
theorem itm_inj {x y : Itm} (h : itm x = itm y) : x = y := by
  obtain ⟨a, b⟩ := x
  obtain ⟨c, d⟩ := y
  unfold itm at h
  injection h with h
  injection h with h
  injection h with h1 h2
  injection h2 with h2 h3
  injection h1 with h1
  injection h2 with h2
  simp only at h1 h2
  rw [h1, h2]
theorem MI.item {es : List MapEntry} {clock : Nat} {L : List Itm} (h : MI es clock L) {e : MapEntry} (he : e ∈ es) : ∃ x ∈ L, e.key = .string x.n ∧ e.val = itm x := (h.1 e he).2
theorem pair_one {es : List MapEntry} (h : es.Pairwise (fun a b => a.key ≠ b.key)) {a b : MapEntry} (ha : a ∈ es) (hb : b ∈ es) (e : a.key = b.key) : a = b := by
  induction es with
  | nil => cases ha
  | cons z r ih =>
    obtain ⟨h1, h2⟩ := List.pairwise_cons.1 h
    rcases List.mem_cons.1 ha with ea | ka
    · rcases List.mem_cons.1 hb with eb | kb
      · rw [ea, eb]
      · exact absurd (ea ▸ e) (h1 _ kb)
    · rcases List.mem_cons.1 hb with eb | kb
      · exact absurd (eb ▸ e.symm) (h1 _ ka)
      · exact ih h2 ka kb
theorem born_one {es : List MapEntry} (h : (es.map (·.born)).Nodup) {a b : MapEntry} (ha : a ∈ es) (hb : b ∈ es) (e : a.born = b.born) : a = b := by
  induction es with
  | nil => cases ha
  | cons z r ih =>
    rw [List.map_cons, List.nodup_cons] at h
    rcases List.mem_cons.1 ha with ea | ka
    · rcases List.mem_cons.1 hb with eb | kb
      · rw [ea, eb]
      · exact absurd (List.mem_map.2 ⟨b, kb, by rw [← e, ea]⟩) h.1
    · rcases List.mem_cons.1 hb with eb | kb
      · exact absurd (List.mem_map.2 ⟨a, ka, by rw [e, eb]⟩) h.1
      · exact ih h.2 ka kb
theorem ColI.step {es : Array MapEntry} {clock : Nat} {L : List Itm} {seen : Array Nat} {acc : List Itm} (h : ColI es seen acc) (hm : MI es.toList clock L) {e : MapEntry} (he : e ∈ (leftOf es seen).toList) {x : Itm} (hk : e.key = .string x.n) (hv : e.val = itm x) :
    ColI es (seen.push e.born) (acc ++ [x]) := by
  obtain ⟨h1, h2, h3, h4⟩ := h
  obtain ⟨m1, m2⟩ := mem_left he
  have hsh := left_shrinks _ _ _ he
  refine ⟨by rw [List.length_append, List.length_singleton]; omega, fun y hy => ?_, fun f hf hs => ?_, ?_⟩
  · rcases List.mem_append.1 hy with hy | hy
    · obtain ⟨f, hf, a, b, c⟩ := h2 y hy
      exact ⟨f, hf, by simp at a ⊢; exact .inl a, b, c⟩
    · rw [List.mem_singleton] at hy
      subst hy
      exact ⟨e, m1, by simp, hk, hv⟩
  · by_cases hfs : seen.contains f.born = true
    · obtain ⟨y, hy, a, b⟩ := h3 f hf hfs
      exact ⟨y, List.mem_append.2 (.inl hy), a, b⟩
    · have hb : f.born = e.born := by
        simp at hs hfs
        rcases hs with hs | hs
        · exact absurd hs hfs
        · exact hs
      have hfe : f = e := by
        have hn := hm.2.1
        exact (born_one hn hf m1 hb)
      subst hfe
      exact ⟨x, by simp, hk, hv⟩
  · rw [List.pairwise_append]
    refine ⟨h4, List.pairwise_singleton _ _, fun a ha b hb => ?_⟩
    rw [List.mem_singleton] at hb
    subst hb
    intro q
    obtain ⟨f, hf, s, k, -⟩ := h2 a ha
    have : f = e := pair_one hm.2.2.1 hf m1 (by rw [k, hk, q])
    subst this
    rw [m2] at s; cases s
theorem ColI.all {es : Array MapEntry} {clock : Nat} {L : List Itm} {seen : Array Nat} {acc : List Itm} (h : ColI es seen acc) (hm : MI es.toList clock L) (h0 : (leftOf es seen).size = 0) : ∀ x, x ∈ acc ↔ x ∈ L := by
  intro x
  constructor
  · intro hx
    obtain ⟨e, he, -, -, hv⟩ := h.2.1 x hx
    obtain ⟨y, hy, -, hv2⟩ := hm.item he
    rw [hv] at hv2
    rw [itm_inj hv2]; exact hy
  · intro hx
    obtain ⟨e, he, -, hv⟩ := hm.2.2.2 x hx
    have hs : seen.contains e.born = true := by
      cases hc : seen.contains e.born with
      | true => rfl
      | false =>
        have : e ∈ (leftOf es seen) := by
          unfold leftOf
          simp only [Array.mem_filter]
          exact ⟨by simpa using he, by rw [hc]; rfl⟩
        have := Array.size_pos_of_mem this
        omega
    obtain ⟨y, hy, -, hv2⟩ := h.2.2.1 e he hs
    rw [hv] at hv2
    rw [itm_inj hv2]; exact hy
theorem sorted_is {α : Type} {f : α → ByteArray} {acc L' L : List α} (hp : L'.Perm acc) (hs : L'.Pairwise (fun x y => ltB (f y) (f x) = false)) (hd : acc.Pairwise (fun x y => f x ≠ f y)) (hL : Asc f L) (hm : ∀ x, x ∈ acc ↔ x ∈ L) : L' = L := by
  have hd2 : L'.Pairwise (fun x y => f x ≠ f y) := (hp.pairwise_iff (fun h => fun e => h e.symm)).2 hd
  refine Asc.same (f := f) ?_ hL fun x => (hp.mem_iff).trans (hm x)
  exact (hd2.and hs).imp fun h => ltB_total (fun e => h.1 e.symm) h.2
end Go.Proofs.YtbilnomafloopaaGreat
