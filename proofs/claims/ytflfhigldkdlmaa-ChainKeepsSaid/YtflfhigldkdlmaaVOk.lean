/-
  Plain facts on chains that may be.
-/
import Derived.Test.YtflfhigldkdlmaaPDel
namespace Go.Proofs.Ytflfhigldkdlmaa
open Go.ChangeShapes Go.WideShapes Go.ChangeAt Go.RowKit
set_option linter.unusedVariables false

/-- x may stand ahead of y, whatever stands between. -/
def ahd (x y : Ver) : Prop := y.tm ≤ x.tm ∧ pairBad x y = false
theorem okP_iff {l : List Ver} : okP l ↔ l.length ≤ 20 ∧ (∀ x ∈ l, mayV x = true) ∧ l.Pairwise ahd := by
  constructor
  · intro h
    refine ⟨h.1, fun x hx => ?_, ?_⟩
    · obtain ⟨k, hk, rfl⟩ := List.getElem_of_mem hx
      exact (h.2 k).1 hk
    · rw [List.pairwise_iff_getElem]
      intro i j hi hj hij
      refine ⟨?_, (h.2 j).2.2 i hj hij hi⟩
      obtain ⟨d, rfl⟩ : ∃ d, j = i + d + 1 := ⟨j - i - 1, by omega⟩
      induction d with
      | zero => have := (h.2 (i + 1)).2.1 i rfl hj; simpa using this
      | succ d ih =>
        have h1 := ih (by omega) (by omega)
        have h2 := (h.2 (i + (d + 1) + 1)).2.1 (i + d + 1) (by omega) hj
        omega
  · rintro ⟨h1, h2, h3⟩
    rw [List.pairwise_iff_getElem] at h3
    refine ⟨h1, fun i => ⟨fun h => h2 _ (List.getElem_mem h), fun j hj h => ?_, fun k hi hk hk' => (h3 k i hk' hi hk).2⟩⟩
    have := (h3 j i (by omega) h (by omega)).1
    omega
theorem okP_nil : okP [] := okP_iff.2 ⟨by simp, by simp, List.Pairwise.nil⟩
theorem okP_sub {l m : List Ver} (h : okP l) (k : m.Sublist l) : okP m := by
  obtain ⟨h1, h2, h3⟩ := okP_iff.1 h
  exact okP_iff.2 ⟨Nat.le_trans k.length_le h1, fun x hx => h2 x (k.subset hx), h3.sublist k⟩
theorem okP_wo {l : List Ver} (h : okP l) (id : Nat) : okP (woV l id) := okP_sub h List.filter_sublist
theorem okP_cons {l : List Ver} {x : Ver} (h : okP l) (hl : l.length < 20) (hm : mayV x = true) (ha : ∀ y ∈ l, ahd x y) : okP (x :: l) := by
  obtain ⟨h1, h2, h3⟩ := okP_iff.1 h
  refine okP_iff.2 ⟨by rw [List.length_cons]; omega, fun y hy => ?_, List.Pairwise.cons ha h3⟩
  rcases List.mem_cons.1 hy with rfl | hy
  · exact hm
  · exact h2 y hy
/-- No version is later than the first. -/
theorem okP_tm {l : List Ver} {x : Ver} (h : okP l) (hl : ∀ y m, l = y :: m → y.tm ≤ x.tm) : ∀ y ∈ l, y.tm ≤ x.tm := by
  intro y hy
  obtain ⟨-, -, h3⟩ := okP_iff.1 h
  cases l with
  | nil => simp at hy
  | cons z m =>
    have hz := hl z m rfl
    rcases List.mem_cons.1 hy with rfl | hy
    · exact hz
    · have := (List.pairwise_cons.1 h3).1 y hy
      have := this.1
      omega
theorem zeroId_may {x : Ver} (h : mayV x = true) : mayV (zeroId x) = true := by
  rw [mayV_iff] at h ⊢
  exact ⟨by show 0 ≤ 281474976710655; omega, h.2⟩
theorem wo_mem {l : List Ver} {id : Nat} {y : Ver} : y ∈ woV l id ↔ y ∈ l ∧ y.id ≠ id := by
  rw [woV, List.mem_filter]; simp
theorem putC_ok {l L : List Ver} {s : Int} {x : Ver} (h : PutC l s x L 0) : okP L := by
  cases h with
  | on h1 h2 h3 h4 h5 h6 h7 =>
    refine okP_cons h1 h7 h3 fun y hy => ⟨okP_tm h1 h5 y hy, ?_⟩
    rw [List.any_eq_false] at h6
    have h8 := h6 y hy
    have h9 : ¬ x.id ≤ y.id := by simpa using h8
    unfold pairBad
    by_cases h0 : y.id = 0
    · rw [if_pos h0]; simpa using h4
    · rw [if_neg h0, if_neg h4]; simpa using h9
  | over h1 h2 h3 h4 h5 =>
    refine okP_cons (okP_wo h1 0) h5 (zeroId_may h3) fun y hy => ?_
    obtain ⟨hy1, hy2⟩ := wo_mem.1 hy
    refine ⟨okP_tm h1 h4 y hy1, ?_⟩
    unfold pairBad
    rw [if_neg hy2, if_pos (show (zeroId x).id = 0 from rfl)]
theorem dropC_ok {l L : List Ver} {id : Nat} (h : DropC l id L 0) : okP L := by
  cases h with
  | yes h1 h2 => exact okP_wo h1 id
theorem delC_ok {l L : List Ver} {s : Int} {id : Nat} {tm : Int} (h : DelC l s id tm L 0) : okP L := by
  rcases h with ⟨-, h⟩ | ⟨-, h⟩
  · exact dropC_ok h
  · exact putC_ok h
/-- What lies in memory stays what it can be. -/
theorem putC_okV {l L : List Ver} {s : Int} {x : Ver} {c : Nat} (h : PutC l s x L c) (hl : ∀ y ∈ l, okV y) (hx : okV x) : ∀ y ∈ L, okV y := by
  intro y hy
  cases h with
  | on h1 h2 h3 h4 h5 h6 h7 =>
    rcases List.mem_cons.1 hy with rfl | hy
    · exact hx
    · exact hl y hy
  | over h1 h2 h3 h4 h5 =>
    rcases List.mem_cons.1 hy with rfl | hy
    · exact zeroId_ok hx
    · exact hl y (wo_mem.1 hy).1
  | _ => simp at hy
theorem dropC_okV {l L : List Ver} {id : Nat} {c : Nat} (h : DropC l id L c) (hl : ∀ y ∈ l, okV y) : ∀ y ∈ L, okV y := by
  intro y hy
  cases h with
  | yes h1 h2 => exact hl y (wo_mem.1 hy).1
  | _ => simp at hy
theorem delC_okV {l L : List Ver} {s : Int} {id : Nat} {tm : Int} {c : Nat} (h : DelC l s id tm L c) (hl : ∀ y ∈ l, okV y) (hid : id < 18446744073709551616) (h1 : -9223372036854775808 ≤ tm) (h2 : tm ≤ 9223372036854775807) : ∀ y ∈ L, okV y := by
  rcases h with ⟨-, h⟩ | ⟨-, h⟩
  · exact dropC_okV h hl
  · exact putC_okV h hl (markV_ok (by split <;> omega) h1 h2)
theorem putC_len {l L : List Ver} {s : Int} {x : Ver} {c : Nat} (h : PutC l s x L c) : L.length ≤ 20 := by
  cases h with
  | on h1 h2 h3 h4 h5 h6 h7 => rw [List.length_cons]; omega
  | over h1 h2 h3 h4 h5 => rw [List.length_cons]; omega
  | _ => simp
theorem dropC_len {l L : List Ver} {id c : Nat} (h : DropC l id L c) : L.length ≤ 20 := by
  cases h with
  | yes h1 h2 => exact (okP_wo h1 id).1
  | _ => simp
theorem delC_len {l L : List Ver} {s : Int} {id : Nat} {tm : Int} {c : Nat} (h : DelC l s id tm L c) : L.length ≤ 20 := by
  rcases h with ⟨-, h⟩ | ⟨-, h⟩
  · exact dropC_len h
  · exact putC_len h

/-- The versions of the chapter's examples. -/
def x1 : Ver := ⟨1, ⟨#[97]⟩, false, 0⟩
def x2 : Ver := ⟨2, ⟨#[98]⟩, false, 0⟩
def y1 : Ver := ⟨0, ⟨#[97]⟩, false, 0⟩
def y2 : Ver := ⟨0, ⟨#[98]⟩, false, 0⟩
def m3 : Ver := markV 3 0
theorem x1_ok : okV x1 := ⟨by decide, by decide, by decide, by decide⟩
theorem x2_ok : okV x2 := ⟨by decide, by decide, by decide, by decide⟩
theorem y1_ok : okV y1 := ⟨by decide, by decide, by decide, by decide⟩
theorem y2_ok : okV y2 := ⟨by decide, by decide, by decide, by decide⟩
theorem m3_ok : okV m3 := ⟨by decide, by decide, by decide, by decide⟩
theorem ex1 : PutC [] 1 x1 [x1] 0 := .on okP_nil rfl rfl (by decide) (by simp) rfl (by decide)
theorem ex2 : PutC [x1] 1 x2 [x2, x1] 0 := .on (putC_ok ex1) rfl rfl (by decide) (by simp [x1, x2]) rfl (by decide)
theorem ex3 : PutC [] 0 y1 [y1] 0 := .over okP_nil (.inl rfl) rfl (by simp) (by decide)
theorem ex4 : PutC [y1] 0 y2 [y2] 0 := by
  have h : PutC [y1] 0 y2 (zeroId y2 :: woV [y1] 0) 0 := .over (putC_ok ex3) (.inl rfl) rfl (by simp [y1, y2]) (by decide)
  exact h
theorem ex5 : DelC [x2, x1] 1 3 0 [m3, x2, x1] 0 := .inr ⟨by decide, .on (putC_ok ex2) rfl rfl (by decide) (by simp [x2, markV]) rfl (by decide)⟩
theorem ex6 : DropC [m3, x2, x1] 3 [x2, x1] 0 := by
  have h : DropC [m3, x2, x1] 3 (woV [m3, x2, x1] 3) 0 := .yes (delC_ok ex5) ⟨0, by decide, rfl⟩
  exact h
end Go.Proofs.Ytflfhigldkdlmaa
