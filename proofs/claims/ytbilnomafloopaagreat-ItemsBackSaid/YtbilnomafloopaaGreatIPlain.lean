/-
  Items by their names: the plain facts on what rises, what is laid in it, and what is told of changes.
-/
import Derived.Test.YtbilnomafloopaaGreatIOrd
namespace Go.Proofs.YtbilnomafloopaaGreat
set_option maxRecDepth 100000
set_option linter.unusedVariables false
set_option linter.unusedSimpArgs false

/-- What rises by a name: each name is less than all behind it. -/
def Asc {α : Type} (f : α → ByteArray) (l : List α) : Prop := l.Pairwise fun x y => ltB (f x) (f y) = true
theorem Asc.nil {α : Type} {f : α → ByteArray} : Asc f [] := List.Pairwise.nil
theorem Asc.filter {α : Type} {f : α → ByteArray} {l : List α} (h : Asc f l) (p : α → Bool) : Asc f (l.filter p) := List.Pairwise.filter p h
/-- Two of one name are one. -/
theorem Asc.one {α : Type} {f : α → ByteArray} {l : List α} (h : Asc f l) {x y : α} (hx : x ∈ l) (hy : y ∈ l) (e : f x = f y) : x = y := by
  induction l with
  | nil => cases hx
  | cons z r ih =>
    obtain ⟨h1, h2⟩ := List.pairwise_cons.1 h
    rcases List.mem_cons.1 hx with ex | kx
    · rcases List.mem_cons.1 hy with ey | ky
      · rw [ex, ey]
      · exact absurd (ex ▸ e) (ltB_ne (h1 _ ky))
    · rcases List.mem_cons.1 hy with ey | ky
      · exact absurd (ey ▸ e.symm) (ltB_ne (h1 _ kx))
      · exact ih h2 kx ky
/-- What rises, and has the same in it, is the same. -/
theorem Asc.same {α : Type} {f : α → ByteArray} : ∀ {l m : List α}, Asc f l → Asc f m → (∀ x, x ∈ l ↔ x ∈ m) → l = m := by
  intro l
  induction l with
  | nil => intro m _ _ h; cases m with
    | nil => rfl
    | cons y r => exact absurd ((h y).2 (by simp)) (by simp)
  | cons x l ih =>
    intro m hl hm h
    cases m with
    | nil => exact absurd ((h x).1 (by simp)) (by simp)
    | cons y m =>
      obtain ⟨l1, l2⟩ := List.pairwise_cons.1 hl
      obtain ⟨m1, m2⟩ := List.pairwise_cons.1 hm
      have e : x = y := by
        rcases List.mem_cons.1 ((h x).1 (by simp)) with e | hx
        · exact e
        · rcases List.mem_cons.1 ((h y).2 (by simp)) with e | hy
          · exact e.symm
          · have a := l1 _ hy; have b := m1 _ hx; rw [ltB_asymm a] at b; cases b
      subst e
      rw [ih l2 m2 fun z => ⟨fun hz => ?_, fun hz => ?_⟩]
      · rcases List.mem_cons.1 ((h z).1 (List.mem_cons_of_mem _ hz)) with e | k
        · subst e; exact absurd rfl (ltB_ne (l1 _ hz))
        · exact k
      · rcases List.mem_cons.1 ((h z).2 (List.mem_cons_of_mem _ hz)) with e | k
        · subst e; exact absurd rfl (ltB_ne (m1 _ hz))
        · exact k
/-- Laid among what rises, in place of another one of its name. -/
def inG {α : Type} (f : α → ByteArray) (l : List α) (x : α) : List α := l.filter (fun y => ltB (f y) (f x)) ++ x :: l.filter (fun y => ltB (f x) (f y))
theorem inG_mem {α : Type} {f : α → ByteArray} {l : List α} {x y : α} : y ∈ inG f l x ↔ y = x ∨ (y ∈ l ∧ f y ≠ f x) := by
  unfold inG
  simp only [List.mem_append, List.mem_cons, List.mem_filter]
  constructor
  · rintro (⟨h, k⟩ | h | ⟨h, k⟩)
    · exact .inr ⟨h, ltB_ne k⟩
    · exact .inl h
    · exact .inr ⟨h, fun e => ltB_ne k e.symm⟩
  · rintro (h | ⟨h, k⟩)
    · exact .inr (.inl h)
    · cases e : ltB (f y) (f x) with
      | true => exact .inl ⟨h, rfl⟩
      | false => exact .inr (.inr ⟨h, ltB_total k e⟩)
theorem inG_asc {α : Type} {f : α → ByteArray} {l : List α} (h : Asc f l) (x : α) : Asc f (inG f l x) := by
  unfold inG Asc
  rw [List.pairwise_append]
  refine ⟨Asc.filter h _, List.pairwise_cons.2 ⟨fun y hy => (List.mem_filter.1 hy).2, Asc.filter h _⟩, fun a ha b hb => ?_⟩
  have h1 := (List.mem_filter.1 ha).2
  rcases List.mem_cons.1 hb with rfl | hb
  · exact h1
  · exact ltB_trans h1 (List.mem_filter.1 hb).2
/-- The items of some, each name once: the last one of it. -/
def ofI (l : List Itm) : List Itm := l.foldl (inG Itm.n) []
theorem foldI_asc (l : List Itm) {o : List Itm} (h : Asc Itm.n o) : Asc Itm.n (l.foldl (inG Itm.n) o) := by
  induction l generalizing o with
  | nil => exact h
  | cons x r ih => exact ih (inG_asc h x)
theorem ofI_asc (l : List Itm) : Asc Itm.n (ofI l) := foldI_asc l Asc.nil
/-- One change done. -/
def stepC (o : List Itm) (c : Chg) : List Itm := if c.gone = true then (inG Itm.n o ⟨c.n, c.val⟩).filter (fun y => decide (y.n ≠ c.n)) else inG Itm.n o ⟨c.n, c.val⟩
theorem stepC_asc {o : List Itm} (h : Asc Itm.n o) (c : Chg) : Asc Itm.n (stepC o c) := by
  unfold stepC; split
  · exact Asc.filter (inG_asc h _) _
  · exact inG_asc h _
theorem stepC_gone {o : List Itm} (h : Asc Itm.n o) {c : Chg} (g : c.gone = true) : stepC o c = o.filter (fun y => decide (y.n ≠ c.n)) := by
  refine Asc.same (f := Itm.n) (stepC_asc h c) (Asc.filter h _) fun y => ?_
  unfold stepC
  rw [if_pos g]
  simp only [List.mem_filter, inG_mem, decide_eq_true_eq]
  constructor
  · rintro ⟨rfl | ⟨h1, -⟩, h2⟩
    · exact absurd rfl h2
    · exact ⟨h1, h2⟩
  · rintro ⟨h1, h2⟩
    exact ⟨.inr ⟨h1, h2⟩, h2⟩
def withI (l : List Itm) (c : List Chg) : List Itm := c.foldl stepC (ofI l)
theorem foldC_asc (c : List Chg) {o : List Itm} (h : Asc Itm.n o) : Asc Itm.n (c.foldl stepC o) := by
  induction c generalizing o with
  | nil => exact h
  | cons x r ih => exact ih (stepC_asc h x)
theorem withI_asc (l : List Itm) (c : List Chg) : Asc Itm.n (withI l c) := foldC_asc c (ofI_asc l)
/-- What is told of changes from what rises to what rises. -/
def DiffC (a b : List Itm) (c : Chg) : Prop := (∃ x ∈ b, x ∉ a ∧ c = ⟨x.n, x.val, false⟩) ∨ (∃ y ∈ a, (∀ x ∈ b, x.n ≠ y.n) ∧ c = ⟨y.n, ⟨#[]⟩, true⟩)
end Go.Proofs.YtbilnomafloopaaGreat
