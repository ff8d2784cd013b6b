/-
  Plain facts on the things of an index, and their pages.
-/
import Derived.Test.YtipipjpdlblifaaGPlain
import Derived.Test.YtipipjpdlblifaaEOrd
namespace Go.Proofs.Ytipipjpdlblifaa
open Go.ChangeShapes Go.WideShapes Go.ChangeAt Go.RowKit
set_option linter.unusedVariables false
set_option linter.unusedSimpArgs false

theorem underL (k p : ByteArray) : underO k p = true ↔ ∃ x, k.toList = p.toList ++ x := by
  rw [under_iff]
  constructor
  · rintro ⟨h1, h2⟩
    refine ⟨k.toList.drop p.size, ?_⟩
    have : p.toList = k.toList.take p.size := by
      rw [← h2, toList_bl, toList_bl, bl_extract, h2]; simp
    rw [this, List.take_append_drop]
  · rintro ⟨x, h⟩
    have hs : p.size ≤ k.size := by
      have := congrArg List.length h
      rw [length_toList, List.length_append, length_toList] at this; omega
    refine ⟨hs, bl_inj ?_⟩
    rw [bl_extract, ← toList_bl k, h, ← toList_bl p]
    simp [length_toList]
theorem less_ext : ∀ a b x y : List UInt8, Op.bytesLess a b = true → ¬ (a <+: b) → Op.bytesLess (a ++ x) (b ++ y) = true := by
  intro a
  induction a with
  | nil => intro b x y _ h; exact absurd (List.nil_prefix) h
  | cons c r ih =>
    intro b x y h k
    cases b with
    | nil => simp [Op.bytesLess] at h
    | cons e m =>
      simp only [Op.bytesLess, List.cons_append, Bool.or_eq_true, Bool.and_eq_true, decide_eq_true_eq, beq_iff_eq] at h ⊢
      rcases h with h | ⟨rfl, h⟩
      · exact .inl h
      · refine .inr ⟨rfl, ih m x y h fun q => k ?_⟩
        obtain ⟨z, rfl⟩ := q
        exact ⟨z, rfl⟩
theorem less_pre (a x : List UInt8) : Op.bytesLess (a ++ x) a = false := by
  induction a with
  | nil => cases x <;> rfl
  | cons c r ih => simp [Op.bytesLess, ih]
theorem under_not_less {k p : ByteArray} (h : underO k p = true) : ltB k p = false := by
  obtain ⟨x, h⟩ := (underL k p).1 h
  unfold ltB; rw [h]; exact less_pre _ _

/-- What a key's thing is, and whether it is a group. -/
def tgO (k p d : ByteArray) : ByteArray × Bool := if (groupO k p d).2 then ((groupO k p d).1, true) else (k, false)
def hdM (e : Ent) : Bool := match e.L with | [] => false | v :: _ => v.mark
def isT (p : ByteArray) (e : Ent) : Bool := underO e.key p && !hdM e
theorem tgO_yes {k p d g : ByteArray} (h : groupO k p d = (g, true)) : tgO k p d = (g, true) := by simp [tgO, h]
theorem tgO_no {k p d : ByteArray} (h : (groupO k p d).2 = false) : tgO k p d = (k, false) := by simp [tgO, h]
structure ThK (k p d : ByteArray) (t : ByteArray × Bool) : Prop where
  key : hasO 1 60 ko t.1 = true
  und : underO t.1 p = true
  beg : underO k t.1 = true
  self : tgO t.1 p d = t
  own : t.2 = false → t.1 = k ∧ (groupO k p d).2 = false
  grp : t.2 = true → groupO k p d = (t.1, true)
  pos : 0 < t.1.size
theorem thK {k p d : ByteArray} (hk : hasO 1 60 ko k = true) (hp : hasO 0 60 ko p = true) (hd : hasO 0 1 ko d = true) (hu : underO k p = true) : ThK k p d (tgO k p d) := by
  cases h : groupO k p d with
  | mk g b =>
    cases b with
    | false =>
      have e : tgO k p d = (k, false) := tgO_no (by rw [h])
      rw [e]
      exact ⟨hk, hu, under_self k, e, (fun _ => ⟨rfl, by rw [h]⟩), (fun q => by cases q), (hasO_size hk).1⟩
    | true =>
      have e : tgO k p d = (g, true) := tgO_yes h
      obtain ⟨f1, f2, f3, f4, f5, f6, f7⟩ := share_facts h
      obtain ⟨-, i, hi, hd0, h1, hg, -, -⟩ := group_is h
      rw [e]
      refine ⟨?_, f3, f4, tgO_yes f7, (fun q => by cases q), fun _ => h, by show 0 < g.size; omega⟩
      show hasO 1 60 ko g = true
      rw [hg]; exact hasO_cut hk (by omega) (by omega)
/-- All keys that begin with a thing that is a group have it. -/
theorem thK_same {k p d k2 : ByteArray} {t : ByteArray × Bool} (h : ThK k p d t) (ht : t.2 = true) (h2 : hasO 1 60 ko k2 = true) (hu : underO k2 t.1 = true) : tgO k2 p d = t := by
  have := group_shares (h.grp ht) h2 hu
  rw [tgO_yes this, ← ht]
/-- Things rise as keys do. -/
theorem tg_mono {a b p d : ByteArray} (ha : hasO 1 60 ko a = true) (hb : hasO 1 60 ko b = true) (hp : hasO 0 60 ko p = true) (hd : hasO 0 1 ko d = true) (ua : underO a p = true) (ub : underO b p = true) (hab : ltB a b = true) :
    tgO a p d = tgO b p d ∨ ltB (tgO a p d).1 (tgO b p d).1 = true := by
  have A := thK ha hp hd ua
  have B := thK hb hp hd ub
  cases e : ltB (tgO a p d).1 (tgO b p d).1 with
  | true => exact .inr rfl
  | false =>
    left
    by_cases q : (tgO a p d).1 = (tgO b p d).1
    · rw [← A.self, ← B.self, q]
    · exfalso
      have lt := ltB_total q e
      obtain ⟨x, hx⟩ := (underL _ _).1 A.beg
      obtain ⟨y, hy⟩ := (underL _ _).1 B.beg
      by_cases pre : (tgO b p d).1.toList <+: (tgO a p d).1.toList
      · have hu : underO a (tgO b p d).1 = true := by
          obtain ⟨z, hz⟩ := pre
          refine (underL _ _).2 ⟨z ++ x, ?_⟩
          rw [hx, ← hz, List.append_assoc]
        cases t : (tgO b p d).2 with
        | true => exact q (by rw [thK_same B t ha hu])
        | false =>
          have hb2 := (B.own t).1
          rw [hb2] at hu
          rw [under_not_less hu] at hab; cases hab
      · have := less_ext _ _ y x lt pre
        rw [← hx, ← hy] at this
        have := ltB_asymm (show ltB b a = true from this)
        rw [this] at hab; cases hab

def lastT (acc : List (ByteArray × Bool)) : ByteArray := match acc.getLast? with | none => ⟨#[]⟩ | some x => x.1
theorem lastT_nil : lastT [] = ⟨#[]⟩ := rfl
theorem lastT_snoc (acc : List (ByteArray × Bool)) (x : ByteArray × Bool) : lastT (acc ++ [x]) = x.1 := by simp [lastT]
def stepT (p d : ByteArray) (acc : List (ByteArray × Bool)) (e : Ent) : List (ByteArray × Bool) :=
  if isT p e then (if lastT acc = (tgO e.key p d).1 then acc else acc ++ [tgO e.key p d]) else acc
/-- The things of an index. -/
def thgs (p d : ByteArray) (l : List Ent) : List (ByteArray × Bool) := l.foldl (stepT p d) []
theorem thgs_zero (p d : ByteArray) (l : List Ent) : thgs p d (l.take 0) = [] := rfl
theorem thgs_succ (p d : ByteArray) {l : List Ent} {i : Nat} (h : i < l.length) : thgs p d (l.take (i + 1)) = stepT p d (thgs p d (l.take i)) l[i] := by
  rw [List.take_succ_eq_append_getElem h, thgs, List.foldl_append]; rfl
theorem stepT_no {p d : ByteArray} {acc : List (ByteArray × Bool)} {e : Ent} (h : isT p e = false) : stepT p d acc e = acc := by simp [stepT, h]
theorem stepT_same {p d : ByteArray} {acc : List (ByteArray × Bool)} {e : Ent} (h : isT p e = true) (k : lastT acc = (tgO e.key p d).1) : stepT p d acc e = acc := by simp [stepT, h, k]
theorem stepT_more {p d : ByteArray} {acc : List (ByteArray × Bool)} {e : Ent} (h : isT p e = true) (k : ¬ lastT acc = (tgO e.key p d).1) : stepT p d acc e = acc ++ [tgO e.key p d] := by simp [stepT, h, k]
theorem isT_iff {p : ByteArray} {e : Ent} : isT p e = true ↔ underO e.key p = true ∧ hdM e = false := by simp [isT]

structure ThF (p d : ByteArray) (l : List Ent) (T : List (ByteArray × Bool)) : Prop where
  rise : T.Pairwise (fun a b => ltB a.1 b.1 = true)
  comes : ∀ x ∈ T, ∃ e ∈ l, isT p e = true ∧ x = tgO e.key p d
  there : ∀ e ∈ l, isT p e = true → tgO e.key p d ∈ T
  len : T.length ≤ l.length
theorem last_of {acc : List (ByteArray × Bool)} {x : ByteArray} (h : lastT acc = x) (hx : 0 < x.size) : ∃ A y, acc = A ++ [y] ∧ y.1 = x := by
  rcases List.eq_nil_or_concat acc with rfl | ⟨A, y, rfl⟩
  · rw [lastT_nil] at h; subst h; exact absurd hx (by decide)
  · rw [List.concat_eq_append] at h ⊢
    rw [lastT_snoc] at h; exact ⟨A, y, rfl, h⟩
theorem thF {p d : ByteArray} {l : List Ent} (hr : l.Pairwise (fun x y => ltB x.key y.key = true)) (hk : ∀ e ∈ l, hasO 1 60 ko e.key = true) (hp : hasO 0 60 ko p = true) (hd : hasO 0 1 ko d = true) :
    ∀ i, i ≤ l.length → ThF p d (l.take i) (thgs p d (l.take i)) := by
  intro i
  induction i with
  | zero => intro _; exact ⟨List.Pairwise.nil, by simp [thgs], by simp, by simp [thgs]⟩
  | succ i ih =>
    intro hi
    have F := ih (by omega)
    have hlt : i < l.length := by omega
    have hmem : l[i] ∈ l := List.getElem_mem hlt
    rw [thgs_succ p d hlt]
    have tk : l.take (i + 1) = l.take i ++ [l[i]] := List.take_succ_eq_append_getElem hlt
    rw [tk]
    cases c : isT p l[i] with
    | false =>
      rw [stepT_no c]
      refine ⟨F.rise, fun x hx => ?_, fun e he ht => ?_, ?_⟩
      · obtain ⟨e, he, h2⟩ := F.comes x hx; exact ⟨e, List.mem_append_left _ he, h2⟩
      · rcases List.mem_append.1 he with he | he
        · exact F.there e he ht
        · obtain rfl : e = l[i] := by simpa using he
          rw [c] at ht; cases ht
      · have := F.len; simp at this ⊢; omega
    | true =>
      obtain ⟨hu, -⟩ := isT_iff.1 c
      have K := thK (hk _ hmem) hp hd hu
      have low : ∀ x ∈ thgs p d (l.take i), x = tgO l[i].key p d ∨ ltB x.1 (tgO l[i].key p d).1 = true := by
        intro x hx
        obtain ⟨e, he, h2, rfl⟩ := F.comes x hx
        have hel : e ∈ l := List.mem_of_mem_take he
        obtain ⟨j, hj, rfl⟩ := List.getElem_of_mem he
        rw [List.length_take] at hj
        have hlt2 : ltB (l.take i)[j].key l[i].key = true := by
          rw [List.getElem_take]
          exact (List.pairwise_iff_getElem.1 hr) j i (by omega) hlt (by omega)
        exact tg_mono (hk _ hel) (hk _ hmem) hp hd (isT_iff.1 h2).1 hu hlt2
      by_cases q : lastT (thgs p d (l.take i)) = (tgO l[i].key p d).1
      · rw [stepT_same c q]
        obtain ⟨A, y, hA, hy⟩ := last_of q K.pos
        have hin : y ∈ thgs p d (l.take i) := by rw [hA]; simp
        refine ⟨F.rise, fun x hx => ?_, fun e he ht => ?_, ?_⟩
        · obtain ⟨e, he, h2⟩ := F.comes x hx; exact ⟨e, List.mem_append_left _ he, h2⟩
        · rcases List.mem_append.1 he with he | he
          · exact F.there e he ht
          · obtain rfl : e = l[i] := by simpa using he
            rcases low y hin with rfl | h3
            · exact hin
            · rw [hy, ltB_irrefl] at h3; cases h3
        · have := F.len; simp at this ⊢; omega
      · rw [stepT_more c q]
        refine ⟨?_, fun x hx => ?_, fun e he ht => ?_, ?_⟩
        · refine List.pairwise_append.2 ⟨F.rise, by simp, fun a ha b hb => ?_⟩
          obtain rfl : b = tgO l[i].key p d := by simpa using hb
          rcases low a ha with rfl | h
          · -- it stands there already: it is the last one
            exfalso
            rcases List.eq_nil_or_concat (thgs p d (l.take i)) with h0 | ⟨A, y, hA⟩
            · rw [h0] at ha; simp at ha
            · rw [List.concat_eq_append] at hA
              have hy := low y (by rw [hA]; simp)
              rw [hA] at ha
              rcases List.mem_append.1 ha with ha | ha
              · have r := F.rise
                rw [hA] at r
                have r2 := (List.pairwise_append.1 r).2.2 _ ha y (by simp)
                rcases hy with rfl | hy
                · rw [ltB_irrefl] at r2; cases r2
                · rw [ltB_asymm r2] at hy; cases hy
              · obtain rfl : tgO l[i].key p d = y := by simpa using ha
                exact q (by rw [hA, lastT_snoc])
          · exact h
        · rcases List.mem_append.1 hx with hx | hx
          · obtain ⟨e, he, h2⟩ := F.comes x hx; exact ⟨e, List.mem_append_left _ he, h2⟩
          · obtain rfl : x = tgO l[i].key p d := by simpa using hx
            exact ⟨l[i], List.mem_append_right _ (by simp), c, rfl⟩
        · rcases List.mem_append.1 he with he | he
          · exact List.mem_append_left _ (F.there e he ht)
          · obtain rfl : e = l[i] := by simpa using he
            simp
        · have := F.len; simp at this ⊢; omega
theorem thF_all {p d : ByteArray} {l : List Ent} (hr : l.Pairwise (fun x y => ltB x.key y.key = true)) (hk : ∀ e ∈ l, hasO 1 60 ko e.key = true) (hp : hasO 0 60 ko p = true) (hd : hasO 0 1 ko d = true) : ThF p d l (thgs p d l) := by
  have := thF hr hk hp hd l.length (Nat.le_refl _)
  rwa [List.take_length] at this
/-- What is known of a thing that is there. -/
theorem ThF.what {p d : ByteArray} {l : List Ent} {T : List (ByteArray × Bool)} (F : ThF p d l T) (hk : ∀ e ∈ l, hasO 1 60 ko e.key = true) (hp : hasO 0 60 ko p = true) (hd : hasO 0 1 ko d = true) {x : ByteArray × Bool} (hx : x ∈ T) :
    ∃ e ∈ l, isT p e = true ∧ ThK e.key p d x := by
  obtain ⟨e, he, h, rfl⟩ := F.comes x hx
  exact ⟨e, he, h, thK (hk e he) hp hd (isT_iff.1 h).1⟩
end Go.Proofs.Ytipipjpdlblifaa
