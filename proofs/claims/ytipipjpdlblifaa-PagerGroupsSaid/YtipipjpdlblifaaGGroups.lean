/-
  Plain facts for PagerGroups.
-/
import Derived.Test.YtipipjpdlblifaaGPlainL
import Derived.Test.YtipipjpdlblifaaGNo
namespace Go.Proofs.Ytipipjpdlblifaa
open Go.ChangeShapes Go.WideShapes Go.ChangeAt Go.RowKit
set_option linter.unusedVariables false
set_option linter.unusedSimpArgs false

/-- A text ends in the delimiter. -/
def endsB (t d : ByteArray) : Bool := (t.extract (t.size - 1) t.size).toList == d.toList
def fndB (t d : ByteArray) (e : Ent) : Bool := decide (e.key = t) || (underO e.key t && endsB t d)
theorem ends_size {t d : ByteArray} (h : endsB t d = true) (ht : 0 < t.size) : 0 < d.size := by
  unfold endsB at h
  have := congrArg List.length (beq_iff_eq.1 h)
  rw [length_toList, length_toList] at this
  rw [← this, ← bl_length, bl_extract, List.length_take, List.length_drop, bl_length]; omega
theorem grp_facts {p d : ByteArray} {l : List Ent} (hI : okI l) (hs : Small l) (hp : hasO 0 60 ko p = true) (hd : hasO 0 1 ko d = true) {i : Nat} (hi : i < (thgs p d l).length) :
    underO (thgs p d l)[i].1 p = true ∧ 0 < (thgs p d l)[i].1.size ∧ (thgs p d l)[i].1.size ≤ 60 ∧ (∀ j (h : j < i), ltB ((thgs p d l)[j]'(by omega)).1 (thgs p d l)[i].1 = true) ∧ l.any (fndB (thgs p d l)[i].1 d) = true ∧
    Hid (∀ b v, Ents b b.heap.size v l → Calls Try.prog 12 #[v, .string (thgs p d l)[i].1, .string d] b fun e w' => ∃ A c n, e = .returned (.tuple #[.slice A (n + 1) c, .int .i64 0]) ∧ n ≤ 1000 ∧ Q b w') := by
  obtain ⟨hl60, hr, hall⟩ := okI_iff.1 hI
  have hk : ∀ e ∈ l, hasO 1 60 ko e.key = true := fun e he => (hall e he).1
  have F := thF_all hr hk hp hd
  have hm := List.getElem_mem hi
  obtain ⟨e, he, h1, K⟩ := F.what hk hp hd hm
  have hz := hasO_size K.key
  have hp2 : hasO 0 60 ko (thgs p d l)[i].1 = true := by
    have := K.key
    unfold hasO at this ⊢
    simp only [Bool.and_eq_true, decide_eq_true_eq] at this ⊢
    exact ⟨⟨Nat.zero_le _, this.1.2⟩, this.2⟩
  refine ⟨K.und, K.pos, hz.2, fun j h => (List.pairwise_iff_getElem.1 F.rise) j i (by omega) hi h, ?_, Lib.hid fun b v ht => ?_⟩
  · rw [List.any_eq_true]
    refine ⟨e, he, ?_⟩
    cases g : (thgs p d l)[i].2 with
    | false => simp [fndB, (K.own g).1]
    | true =>
      have := (share_facts (K.grp g)).2.2.2.2.1
      simp only [fndB, endsB, K.beg, this, Bool.and_self, Bool.or_true]
  · refine (things_hid rfl hI hs hp2 hd).out b v ht |>.mono ?_
    rintro e' w' ⟨A, c, rfl, -, q⟩
    have F2 := thF_all hr hk hp2 hd
    have hin := F2.there e he (isT_iff.2 ⟨K.beg, (isT_iff.1 h1).2⟩)
    have hpos : 0 < ((thgs (thgs p d l)[i].1 d l).map (·.1)).length := by rw [List.length_map]; exact List.length_pos_of_mem hin
    have hle := F2.len
    obtain ⟨n, hn⟩ : ∃ n, ((thgs (thgs p d l)[i].1 d l).map (·.1)).length = n + 1 := ⟨_, (Nat.succ_pred_eq_of_pos hpos).symm⟩
    refine ⟨A, c, n, by rw [hn], ?_, q⟩
    rw [List.length_map] at hn; omega
theorem any_take {α : Type} (f : α → Bool) {l : List α} {i : Nat} (h : i < l.length) : (l.take (i + 1)).any f = ((l.take i).any f || f l[i]) := by
  rw [List.take_succ_eq_append_getElem h, List.any_append]; simp
end Go.Proofs.Ytipipjpdlblifaa
