/-
  Plain facts on changes there and back.
-/
import Derived.Test.YtbilnomafloopaaGreatIAwake
namespace Go.Proofs.YtbilnomafloopaaGreat
set_option maxRecDepth 100000
set_option linter.unusedVariables false
set_option linter.unusedSimpArgs false

@[go_sem] theorem binOp_string_geqI (t : TypeId) (a b : ByteArray) : binOp .geq t (.string a) (.string b) = pure (.bool !(Op.bytesLess a.toList b.toList)) := by simp [binOp, Op.stringOp]
theorem foldI_self {o l : List Itm} (ho : Asc Itm.n o) (hl : Asc Itm.n l) : ∀ x, x ∈ l.foldl (inG Itm.n) o ↔ x ∈ l ∨ (x ∈ o ∧ ∀ y ∈ l, y.n ≠ x.n) := by
  induction l generalizing o with
  | nil => intro x; simp
  | cons z r ih =>
    intro x
    obtain ⟨h1, h2⟩ := List.pairwise_cons.1 hl
    rw [List.foldl_cons, ih (inG_asc ho z) h2, inG_mem]
    simp only [List.mem_cons]
    constructor
    · rintro (h | ⟨rfl | ⟨h, k⟩, n⟩)
      · exact .inl (.inr h)
      · exact .inl (.inl rfl)
      · exact .inr ⟨h, fun y hy => by rcases hy with rfl | hy; exact fun e => k e.symm; exact n y hy⟩
    · rintro ((rfl | h) | ⟨h, n⟩)
      · exact .inr ⟨.inl rfl, fun y hy e => ltB_ne (h1 y hy) e.symm⟩
      · exact .inl h
      · exact .inr ⟨.inr ⟨h, fun e => n z (.inl rfl) e.symm⟩, fun y hy => n y (.inr hy)⟩
theorem ofI_self {l : List Itm} (h : Asc Itm.n l) : ofI l = l :=
  Asc.same (f := Itm.n) (ofI_asc l) h fun x => by unfold ofI; rw [foldI_self Asc.nil h]; simp
theorem withI_nil (l : List Itm) : withI l [] = ofI l := rfl
theorem stepC_mem {o : List Itm} (h : Asc Itm.n o) (c : Chg) (z : Itm) : z ∈ stepC o c ↔ (c.gone = false ∧ z = ⟨c.n, c.val⟩) ∨ (z ∈ o ∧ z.n ≠ c.n) := by
  cases g : c.gone with
  | true =>
    rw [stepC_gone h g, List.mem_filter]
    simp
  | false =>
    unfold stepC
    rw [if_neg (by rw [g]; decide), inG_mem]
    simp
theorem foldC_mem {c : List Chg} (hc : c.Pairwise (fun x y => x.n ≠ y.n)) {o : List Itm} (ho : Asc Itm.n o) (z : Itm) :
    z ∈ c.foldl stepC o ↔ (∃ x ∈ c, x.gone = false ∧ z = ⟨x.n, x.val⟩) ∨ (z ∈ o ∧ ∀ x ∈ c, x.n ≠ z.n) := by
  induction c generalizing o with
  | nil => simp
  | cons y r ih =>
    obtain ⟨h1, h2⟩ := List.pairwise_cons.1 hc
    rw [List.foldl_cons, ih h2 (stepC_asc ho y), stepC_mem ho]
    constructor
    · rintro (⟨x, hx, k⟩ | ⟨⟨g, rfl⟩ | ⟨h, k⟩, n⟩)
      · exact .inl ⟨x, List.mem_cons_of_mem _ hx, k⟩
      · exact .inl ⟨y, by simp, g, rfl⟩
      · refine .inr ⟨h, fun x hx => ?_⟩
        rcases List.mem_cons.1 hx with rfl | hx
        · exact fun e => k e.symm
        · exact n x hx
    · rintro (⟨x, hx, g, e⟩ | ⟨h, n⟩)
      · rcases List.mem_cons.1 hx with rfl | hx
        · refine .inr ⟨.inl ⟨g, e⟩, fun u hu q => h1 u hu ?_⟩
          rw [e] at q; exact q.symm
        · exact .inl ⟨x, hx, g, e⟩
      · exact .inr ⟨.inr ⟨h, fun e => n y (by simp) e.symm⟩, fun x hx => n x (List.mem_cons_of_mem _ hx)⟩
theorem asc_ne {α : Type} {f : α → ByteArray} {c : List α} (h : Asc f c) : c.Pairwise (fun x y => f x ≠ f y) := List.Pairwise.imp (fun h => ltB_ne h) h
theorem with_diff {X Y : List Itm} (hX : Asc Itm.n X) (hY : Asc Itm.n Y) {c : List Chg} (hd : DiffIs X Y c) : withI X c = Y := by
  unfold withI
  rw [ofI_self hX]
  refine Asc.same (f := Itm.n) (foldC_asc c hX) hY fun z => ?_
  rw [foldC_mem (asc_ne hd.1) hX]
  constructor
  · rintro (⟨x, hx, g, rfl⟩ | ⟨h, n⟩)
    · rcases (hd.2 x).1 hx with ⟨y, hy, -, rfl⟩ | ⟨y, hy, -, rfl⟩
      · exact hy
      · cases g
    · by_cases hz : ∃ x ∈ Y, x.n = z.n
      · obtain ⟨x, hx, e⟩ := hz
        by_cases hxX : x ∈ X
        · rw [← hX.one hxX h e]; exact hx
        · exact absurd e (n ⟨x.n, x.val, false⟩ ((hd.2 _).2 (.inl ⟨x, hx, hxX, rfl⟩)))
      · exact absurd rfl (n ⟨z.n, ⟨#[]⟩, true⟩ ((hd.2 _).2 (.inr ⟨z, h, fun x hx e => hz ⟨x, hx, e⟩, rfl⟩)))
  · intro h
    by_cases hzX : z ∈ X
    · refine .inr ⟨hzX, fun x hx e => ?_⟩
      rcases (hd.2 x).1 hx with ⟨y, hy, hn, rfl⟩ | ⟨y, hy, hn, rfl⟩
      · exact hn (by rw [hY.one hy h e]; exact hzX)
      · exact hn z h e.symm
    · exact .inl ⟨⟨z.n, z.val, false⟩, (hd.2 _).2 (.inl ⟨z, h, hzX, rfl⟩), rfl, rfl⟩
theorem chgOf_nil {A B : List Itm} {k : ByteArray} : chgOf A B k = [] ↔ lookI A k = lookI B k := by
  unfold chgOf
  cases lookI A k <;> cases lookI B k <;> simp
theorem names_iff {X Y : List Itm} (hX : Asc Itm.n X) (hY : Asc Itm.n Y) {c : List Chg} (hd : DiffIs X Y c) (k : ByteArray) : k ∈ c.map Chg.n ↔ lookI X k ≠ lookI Y k := by
  have hk : ¬ chgOf X Y k = [] ↔ ¬ lookI X k = lookI Y k := not_congr chgOf_nil
  rw [ne_eq, ← hk]
  constructor
  · intro h e
    obtain ⟨x, hx, rfl⟩ := List.mem_map.1 h
    have := (chgOf_iff hX hY).2 ((hd.2 x).1 hx)
    rw [e] at this; cases this
  · intro h
    obtain ⟨x, hx⟩ := List.exists_mem_of_ne_nil _ h
    have hn := chgOf_name hx
    subst hn
    exact List.mem_map.2 ⟨x, (hd.2 x).2 ((chgOf_iff hX hY).1 hx), rfl⟩
theorem asc_map {c : List Chg} (h : Asc Chg.n c) : Asc (fun k : ByteArray => k) (c.map Chg.n) := by
  unfold Asc; rw [List.pairwise_map]; exact h
theorem back_names {X Y : List Itm} (hX : Asc Itm.n X) (hY : Asc Itm.n Y) {c d : List Chg} (hc : DiffIs X Y c) (hd : DiffIs Y X d) : c.map Chg.n = d.map Chg.n :=
  Asc.same (asc_map hc.1) (asc_map hd.1) fun k => by rw [names_iff hX hY hc, names_iff hY hX hd]; exact ⟨fun h e => h e.symm, fun h e => h e.symm⟩
theorem back_gone {X Y : List Itm} {c d : List Chg} (hc : DiffIs X Y c) (hd : DiffIs Y X d) {x y : Chg} (hx : x ∈ c) (hy : y ∈ d) (e : x.n = y.n) (g : x.gone = true) : y.gone = false := by
  rcases (hc.2 x).1 hx with ⟨u, hu, -, rfl⟩ | ⟨u, hu, hn, rfl⟩
  · cases g
  · rcases (hd.2 y).1 hy with ⟨v, hv, -, rfl⟩ | ⟨v, hv, -, rfl⟩
    · rfl
    · exact absurd e.symm (hn v hv)
theorem diff_ok {X Y : List Itm} {p : ByteArray → ByteArray → Prop} (hX : ∀ x ∈ X, p x.n x.val) (hY : ∀ x ∈ Y, p x.n x.val) (h0 : ∀ n v, p n v → p n ⟨#[]⟩) {c : List Chg} (hd : DiffIs X Y c) : ∀ x ∈ c, p x.n x.val := by
  intro x hx
  rcases (hd.2 x).1 hx with ⟨y, hy, -, rfl⟩ | ⟨y, hy, -, rfl⟩
  · exact hY y hy
  · exact h0 _ _ (hX y hy)
theorem diff_len {X Y : List Itm} (hX : Asc Itm.n X) (hY : Asc Itm.n Y) {c : List Chg} (hd : DiffIs X Y c) : c.length ≤ X.length + Y.length := by
  have h := rdiff_is X Y
  rw [ofI_self hX, ofI_self hY] at h
  rw [hd.same h]
  have h1 := diffP_len X Y (Y.foldl (inG Itm.n) X)
  have h2 := foldI_len Y X
  omega
end Go.Proofs.YtbilnomafloopaaGreat
