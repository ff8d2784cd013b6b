/-
  More plain facts on items: how many, how great; the last one of a name; what is told of changes.
-/
import Derived.Test.YtbilnomafloopaaGreatIRef
import Derived.Test.YtbilnomafloopaaGreatTk
namespace Go.Proofs.YtbilnomafloopaaGreat
set_option maxRecDepth 100000
set_option linter.unusedVariables false
set_option linter.unusedSimpArgs false

theorem filt_two {α : Type} (p q : α → Bool) (h : ∀ x, p x = true → q x = false) (l : List α) : (l.filter p).length + (l.filter q).length ≤ l.length := by
  induction l with
  | nil => simp
  | cons x r ih =>
    simp only [List.filter_cons]
    have hx := h x
    split <;> split <;> simp_all <;> omega
theorem inG_len {α : Type} (f : α → ByteArray) (l : List α) (x : α) : (inG f l x).length ≤ l.length + 1 := by
  unfold inG
  rw [List.length_append, List.length_cons]
  have := filt_two (fun y => ltB (f y) (f x)) (fun y => ltB (f x) (f y)) (fun y h => ltB_asymm h) l
  omega
theorem foldI_len (l : List Itm) (o : List Itm) : (l.foldl (inG Itm.n) o).length ≤ o.length + l.length := by
  induction l generalizing o with
  | nil => simp
  | cons x r ih =>
    have h1 := ih (inG Itm.n o x)
    have h2 := inG_len Itm.n o x
    rw [List.foldl_cons, List.length_cons]; omega
theorem ofI_len (l : List Itm) : (ofI l).length ≤ l.length := by have := foldI_len l []; simpa [ofI] using this
theorem foldI_sub {l o : List Itm} {x : Itm} (h : x ∈ l.foldl (inG Itm.n) o) : x ∈ o ∨ x ∈ l := by
  induction l generalizing o with
  | nil => exact .inl h
  | cons y r ih =>
    rcases ih h with h | h
    · rcases inG_mem.1 h with rfl | ⟨h, -⟩
      · exact .inr (by simp)
      · exact .inl h
    · exact .inr (List.mem_cons_of_mem _ h)
theorem ofI_sub {l : List Itm} {x : Itm} (h : x ∈ ofI l) : x ∈ l := by
  rcases foldI_sub h with h | h
  · cases h
  · exact h
theorem ofI_take (l : List Itm) (i : Nat) (h : i < l.length) : ofI (l.take (i + 1)) = inG Itm.n (ofI (l.take i)) l[i] := by
  unfold ofI
  rw [List.take_succ_eq_append_getElem h, List.foldl_append]; rfl
theorem ofI_snoc (l : List Itm) (x : Itm) : ofI (l ++ [x]) = inG Itm.n (ofI l) x := by unfold ofI; rw [List.foldl_append]; rfl
theorem foldC_len (c : List Chg) (o : List Itm) : (c.foldl stepC o).length ≤ o.length + c.length := by
  induction c generalizing o with
  | nil => simp
  | cons x r ih =>
    have h1 := ih (stepC o x)
    have h2 : (stepC o x).length ≤ o.length + 1 := by
      unfold stepC
      have := inG_len Itm.n o ⟨x.n, x.val⟩
      split
      · exact Nat.le_trans (List.length_filter_le _ _) this
      · exact this
    rw [List.foldl_cons, List.length_cons]; omega
theorem withI_len (l : List Itm) (c : List Chg) : (withI l c).length ≤ l.length + c.length := by
  have := foldC_len c (ofI l); have := ofI_len l; unfold withI; omega
theorem withI_take (l : List Itm) (c : List Chg) (i : Nat) (h : i < c.length) : (c.take (i + 1)).foldl stepC (ofI l) = stepC ((c.take i).foldl stepC (ofI l)) c[i] := by
  rw [List.take_succ_eq_append_getElem h, List.foldl_append]; rfl
/-- What holds of all names and values that come in holds of all that there are. -/
theorem stepC_all {p : ByteArray → ByteArray → Prop} {o : List Itm} {c : Chg} (h : ∀ x ∈ o, p x.n x.val) (hc : p c.n c.val) : ∀ x ∈ stepC o c, p x.n x.val := by
  intro x hx
  have hin : x ∈ inG Itm.n o ⟨c.n, c.val⟩ := by
    unfold stepC at hx
    split at hx
    · exact (List.mem_filter.1 hx).1
    · exact hx
  rcases inG_mem.1 hin with rfl | ⟨k, -⟩
  · exact hc
  · exact h x k
theorem foldC_all {p : ByteArray → ByteArray → Prop} {c : List Chg} {o : List Itm} (h : ∀ x ∈ o, p x.n x.val) (hc : ∀ x ∈ c, p x.n x.val) : ∀ x ∈ c.foldl stepC o, p x.n x.val := by
  induction c generalizing o with
  | nil => exact h
  | cons y r ih => exact ih (stepC_all h (hc y (by simp))) (fun x hx => hc x (List.mem_cons_of_mem _ hx))
theorem withI_all {p : ByteArray → ByteArray → Prop} {c : List Chg} {l : List Itm} (h : ∀ x ∈ l, p x.n x.val) (hc : ∀ x ∈ c, p x.n x.val) : ∀ x ∈ withI l c, p x.n x.val :=
  foldC_all (fun x hx => h x (ofI_sub hx)) hc
/-- The last item of a name, and whether there is one. -/
def LastI (l : List Itm) (k : ByteArray) (s : ByteArray) (b : Bool) : Prop :=
  (b = true ∧ ∃ i, ∃ h : i < l.length, l[i] = ⟨k, s⟩ ∧ ∀ j (h : j < l.length), i < j → l[j].n ≠ k) ∨ (b = false ∧ s = ⟨#[]⟩ ∧ ∀ x ∈ l, x.n ≠ k)
theorem snoc_ind {α : Type} {P : List α → Prop} (h0 : P []) (h1 : ∀ l x, P l → P (l ++ [x])) (l : List α) : P l := by
  have key : ∀ r : List α, P r.reverse := fun r => by
    induction r with
    | nil => exact h0
    | cons x r ih => rw [List.reverse_cons]; exact h1 _ _ ih
  have h := key l.reverse
  rwa [List.reverse_reverse] at h
theorem ofI_last (l : List Itm) (k : ByteArray) : ∀ s b, LastI l k s b → (b = true ∧ ⟨k, s⟩ ∈ ofI l) ∨ (b = false ∧ s = ⟨#[]⟩ ∧ ∀ x ∈ ofI l, x.n ≠ k) := by
  refine snoc_ind (P := fun l => ∀ s b, LastI l k s b → (b = true ∧ ⟨k, s⟩ ∈ ofI l) ∨ (b = false ∧ s = ⟨#[]⟩ ∧ ∀ x ∈ ofI l, x.n ≠ k)) ?_ ?_ l
  · rintro s b (⟨-, i, h, -⟩ | ⟨h1, h2, -⟩)
    · simp at h
    · exact .inr ⟨h1, h2, fun x hx => by cases hx⟩
  · intro l y ih
    rintro s b (⟨hb, i, h, e, hj⟩ | ⟨h1, h2, h3⟩)
    · refine .inl ⟨hb, ?_⟩
      rw [ofI_snoc, inG_mem]
      by_cases hi : i = l.length
      · subst hi
        simp at e
        exact .inl e.symm
      · have hi2 : i < l.length := by simp at h; omega
        rw [List.getElem_append_left hi2] at e
        have hy : y.n ≠ k := by have := hj l.length (by simp) hi2; simpa using this
        refine .inr ⟨?_, fun q => hy q.symm⟩
        rcases ih s b (.inl ⟨hb, i, hi2, e, fun j hj2 hij => by have := hj j (by simp; omega) hij; rwa [List.getElem_append_left hj2] at this⟩) with ⟨-, h⟩ | ⟨h, -⟩
        · exact h
        · rw [hb] at h; cases h
    · refine .inr ⟨h1, h2, fun x hx => ?_⟩
      exact h3 x (ofI_sub hx)
/-- These are the changes from one to another, rising. -/
def DiffIs (a b : List Itm) (c : List Chg) : Prop := Asc Chg.n c ∧ ∀ x, x ∈ c ↔ DiffC a b x
theorem DiffIs.same {a b : List Itm} {c d : List Chg} (h : DiffIs a b c) (k : DiffIs a b d) : c = d := Asc.same h.1 k.1 fun x => (h.2 x).trans (k.2 x).symm
end Go.Proofs.YtbilnomafloopaaGreat
