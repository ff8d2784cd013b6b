/-
  Plain facts on what is told of changes.
-/
import Derived.Test.YtbilnomafloopaaGreatIRef2
namespace Go.Proofs.YtbilnomafloopaaGreat
set_option maxRecDepth 100000
set_option linter.unusedVariables false
set_option linter.unusedSimpArgs false

theorem lastI_ex (l : List Itm) (k : ByteArray) : ∃ s b, LastI l k s b := by
  by_cases h : ∃ i, ∃ hi : i < l.length, l[i].n = k
  · have key : ∀ m, m ≤ l.length → (∃ i, ∃ hi : i < l.length, i < m ∧ l[i].n = k) → (∀ j (hj : j < l.length), m ≤ j → l[j].n ≠ k) → ∃ i, ∃ hi : i < l.length, l[i].n = k ∧ ∀ j (hj : j < l.length), i < j → l[j].n ≠ k := by
      intro m
      induction m with
      | zero => rintro - ⟨i, hi, h0, -⟩; omega
      | succ m ih =>
        rintro hm ⟨i, hi, hlt, he⟩ hn
        by_cases hk : l[m].n = k
        · exact ⟨m, hm, hk, fun j hj hmj => hn j hj (by omega)⟩
        · refine ih (by omega) ⟨i, hi, ?_, he⟩ (fun j hj hmj => ?_)
          · rcases Nat.lt_or_ge i m with h | h
            · exact h
            · exact absurd he (by have : i = m := by omega
                                  subst this; exact hk)
          · by_cases hjm : j = m
            · subst hjm; exact hk
            · exact hn j hj (by omega)
    obtain ⟨i, hi, he⟩ := h
    obtain ⟨i, hi, he, hn⟩ := key l.length (Nat.le_refl _) ⟨i, hi, hi, he⟩ (fun j hj hm => by omega)
    exact ⟨l[i].val, true, .inl ⟨rfl, i, hi, by rw [← he], hn⟩⟩
  · refine ⟨⟨#[]⟩, false, .inr ⟨rfl, rfl, fun x hx e => ?_⟩⟩
    obtain ⟨i, hi, rfl⟩ := List.getElem_of_mem hx
    exact h ⟨i, hi, e⟩
def lookI (A : List Itm) (k : ByteArray) : Option ByteArray := (A.find? (fun y => decide (y.n = k))).map (·.val)
theorem lookI_some {A : List Itm} (h : Asc Itm.n A) {k s : ByteArray} (hm : ⟨k, s⟩ ∈ A) : lookI A k = some s := by
  unfold lookI
  cases e : A.find? (fun y => decide (y.n = k)) with
  | none => exact absurd (List.find?_eq_none.1 e _ hm) (by simp)
  | some y =>
    have h1 : y.n = k := by simpa using List.find?_some e
    have h2 := h.one (List.mem_of_find?_eq_some e) hm h1
    rw [h2]; rfl
theorem lookI_none {A : List Itm} {k : ByteArray} (h : ∀ x ∈ A, x.n ≠ k) : lookI A k = none := by
  unfold lookI
  rw [List.find?_eq_none.2 (fun x hx => by simpa using h x hx)]; rfl
theorem lookI_mem {A : List Itm} {k s : ByteArray} (h : lookI A k = some s) : ⟨k, s⟩ ∈ A := by
  unfold lookI at h
  cases e : A.find? (fun y => decide (y.n = k)) with
  | none => rw [e] at h; cases h
  | some y =>
    have h1 : y.n = k := by simpa using List.find?_some e
    rw [e] at h
    have h2 : y.val = s := by injection h
    have h3 := List.mem_of_find?_eq_some e
    subst h1 h2
    exact h3
theorem lookI_no {A : List Itm} {k : ByteArray} (h : lookI A k = none) : ∀ x ∈ A, x.n ≠ k := by
  intro x hx e
  unfold lookI at h
  cases e2 : A.find? (fun y => decide (y.n = k)) with
  | none => exact absurd (List.find?_eq_none.1 e2 _ hx) (by simp [e])
  | some y => rw [e2] at h; cases h
theorem lookI_last {l : List Itm} {k s : ByteArray} {b : Bool} (h : LastI l k s b) : lookI (ofI l) k = if b = true then some s else none := by
  rcases ofI_last l k s b h with ⟨rfl, h2⟩ | ⟨rfl, -, h2⟩
  · rw [if_pos rfl]; exact lookI_some (ofI_asc l) h2
  · rw [if_neg (by decide)]; exact lookI_none h2
/-- What is told of a name. -/
def chgOf (A B : List Itm) (k : ByteArray) : List Chg :=
  match lookI A k, lookI B k with
  | none, some s => [⟨k, s, false⟩]
  | some t, some s => if t = s then [] else [⟨k, s, false⟩]
  | some _, none => [⟨k, ⟨#[]⟩, true⟩]
  | none, none => []
theorem chgOf_name {A B : List Itm} {k : ByteArray} {x : Chg} (h : x ∈ chgOf A B k) : x.n = k := by
  unfold chgOf at h
  split at h
  · rw [List.mem_singleton] at h; rw [h]
  · split at h
    · cases h
    · rw [List.mem_singleton] at h; rw [h]
  · rw [List.mem_singleton] at h; rw [h]
  · cases h
theorem chgOf_one (A B : List Itm) (k : ByteArray) : (chgOf A B k).length ≤ 1 := by
  unfold chgOf
  split
  · simp
  · split <;> simp
  · simp
  · simp
theorem chgOf_iff {A B : List Itm} (hA : Asc Itm.n A) (hB : Asc Itm.n B) {x : Chg} : x ∈ chgOf A B x.n ↔ DiffC A B x := by
  obtain ⟨k, v, g⟩ := x
  unfold chgOf DiffC
  simp only
  cases ea : lookI A k with
  | none =>
    have na := lookI_no ea
    cases eb : lookI B k with
    | none =>
      have nb := lookI_no eb
      simp only [List.not_mem_nil, false_iff]
      rintro (⟨x, hx, -, e⟩ | ⟨y, hy, -, e⟩)
      · injection e with e1 e2 e3; exact nb x hx e1.symm
      · injection e with e1 e2 e3; exact na y hy e1.symm
    | some s =>
      have mb := lookI_mem eb
      simp only [List.mem_singleton]
      constructor
      · intro e
        exact .inl ⟨⟨k, s⟩, mb, fun h => na _ h rfl, e⟩
      · rintro (⟨x, hx, -, e⟩ | ⟨y, hy, -, e⟩)
        · injection e with e1 e2 e3
          have := hB.one hx mb e1.symm
          subst this
          rw [e2, e3]
        · injection e with e1 e2 e3; exact absurd e1.symm (na y hy)
  | some t =>
    have ma := lookI_mem ea
    cases eb : lookI B k with
    | none =>
      have nb := lookI_no eb
      simp only [List.mem_singleton]
      constructor
      · intro e
        exact .inr ⟨⟨k, t⟩, ma, nb, e⟩
      · rintro (⟨x, hx, -, e⟩ | ⟨y, hy, -, e⟩)
        · injection e with e1 e2 e3; exact absurd e1.symm (nb x hx)
        · injection e with e1 e2 e3; rw [e2, e3]
    | some s =>
      have mb := lookI_mem eb
      by_cases hts : t = s
      · subst hts
        simp only [if_pos, List.not_mem_nil, false_iff]
        rintro (⟨x, hx, hn, e⟩ | ⟨y, hy, hn, e⟩)
        · injection e with e1 e2 e3
          have := hB.one hx mb e1.symm
          subst this
          exact hn ma
        · injection e with e1 e2 e3; exact hn _ mb e1
      · simp only [if_neg hts, List.mem_singleton]
        constructor
        · intro e
          exact .inl ⟨⟨k, s⟩, mb, fun h => hts (by have := hA.one h ma rfl; injection this with _ h2; exact h2.symm), e⟩
        · rintro (⟨x, hx, hn, e⟩ | ⟨y, hy, hn, e⟩)
          · injection e with e1 e2 e3
            have := hB.one hx mb e1.symm
            subst this
            rw [e2, e3]
          · injection e with e1 e2 e3; exact absurd e1 (hn _ mb)
def diffP (A B all : List Itm) : List Chg := all.flatMap fun x => chgOf A B x.n
theorem diffP_take (A B all : List Itm) (i : Nat) (h : i < all.length) : diffP A B (all.take (i + 1)) = diffP A B (all.take i) ++ chgOf A B all[i].n := by
  unfold diffP
  rw [List.take_succ_eq_append_getElem h, List.flatMap_append]; simp
theorem diffP_len (A B all : List Itm) : (diffP A B all).length ≤ all.length := by
  unfold diffP
  induction all with
  | nil => simp
  | cons x r ih => rw [List.flatMap_cons, List.length_append, List.length_cons]; have := chgOf_one A B x.n; omega
theorem diffP_asc (A B : List Itm) {all : List Itm} (h : Asc Itm.n all) : Asc Chg.n (diffP A B all) := by
  induction all with
  | nil => exact Asc.nil
  | cons x r ih =>
    obtain ⟨h1, h2⟩ := List.pairwise_cons.1 h
    unfold diffP Asc
    rw [List.flatMap_cons, List.pairwise_append]
    refine ⟨?_, ih h2, fun a ha b hb => ?_⟩
    · have h1 := chgOf_one A B x.n
      match e : chgOf A B x.n, h1 with
      | [], _ => exact List.Pairwise.nil
      | [a], _ => exact List.pairwise_singleton _ _
      | a :: b :: r, h1 => simp at h1
    · obtain ⟨y, hy, hb2⟩ := List.mem_flatMap.1 hb
      rw [chgOf_name ha, chgOf_name hb2]
      exact h1 y hy
theorem diffP_is {A B all : List Itm} (hA : Asc Itm.n A) (hB : Asc Itm.n B) (h : Asc Itm.n all) (hk : ∀ k, (∃ x ∈ all, x.n = k) ↔ ((∃ x ∈ A, x.n = k) ∨ ∃ x ∈ B, x.n = k)) : DiffIs A B (diffP A B all) := by
  refine ⟨diffP_asc A B h, fun x => ⟨fun hx => ?_, fun hx => ?_⟩⟩
  · obtain ⟨y, hy, h2⟩ := List.mem_flatMap.1 hx
    have := chgOf_name h2
    rw [← this] at h2
    exact (chgOf_iff hA hB).1 h2
  · have hm := (chgOf_iff hA hB).2 hx
    have : (∃ y ∈ A, y.n = x.n) ∨ ∃ y ∈ B, y.n = x.n := by
      rcases hx with ⟨y, hy, -, e⟩ | ⟨y, hy, -, e⟩
      · exact .inr ⟨y, hy, by rw [e]⟩
      · exact .inl ⟨y, hy, by rw [e]⟩
    obtain ⟨z, hz, e⟩ := (hk x.n).2 this
    exact List.mem_flatMap.2 ⟨z, hz, by rw [e]; exact hm⟩
/-- The names of all of two. -/
theorem foldI_names (l o : List Itm) (k : ByteArray) : (∃ x ∈ l.foldl (inG Itm.n) o, x.n = k) ↔ ((∃ x ∈ o, x.n = k) ∨ ∃ x ∈ l, x.n = k) := by
  induction l generalizing o with
  | nil => simp
  | cons y r ih =>
    rw [List.foldl_cons, ih]
    constructor
    · rintro (⟨x, hx, e⟩ | ⟨x, hx, e⟩)
      · rcases inG_mem.1 hx with rfl | ⟨hx, -⟩
        · exact .inr ⟨x, by simp, e⟩
        · exact .inl ⟨x, hx, e⟩
      · exact .inr ⟨x, List.mem_cons_of_mem _ hx, e⟩
    · rintro (⟨x, hx, e⟩ | ⟨x, hx, e⟩)
      · by_cases hy : x.n = y.n
        · exact .inl ⟨y, inG_mem.2 (.inl rfl), by rw [← hy, e]⟩
        · exact .inl ⟨x, inG_mem.2 (.inr ⟨hx, hy⟩), e⟩
      · rcases List.mem_cons.1 hx with rfl | hx
        · exact .inl ⟨x, inG_mem.2 (.inl rfl), e⟩
        · exact .inr ⟨x, hx, e⟩
theorem ofI_names (l : List Itm) (k : ByteArray) : (∃ x ∈ ofI l, x.n = k) ↔ ∃ x ∈ l, x.n = k := by
  unfold ofI; rw [foldI_names]; simp
theorem all_names (a b : List Itm) (k : ByteArray) : (∃ x ∈ b.foldl (inG Itm.n) (ofI a), x.n = k) ↔ ((∃ x ∈ ofI a, x.n = k) ∨ ∃ x ∈ ofI b, x.n = k) := by rw [foldI_names, ofI_names b]
theorem rdiff_is (a b : List Itm) : DiffIs (ofI a) (ofI b) (diffP (ofI a) (ofI b) (b.foldl (inG Itm.n) (ofI a))) := diffP_is (ofI_asc a) (ofI_asc b) (foldI_asc b (ofI_asc a)) (all_names a b)
end Go.Proofs.YtbilnomafloopaaGreat
