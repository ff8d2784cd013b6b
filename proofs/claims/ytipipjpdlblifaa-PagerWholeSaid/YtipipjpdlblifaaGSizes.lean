/-
  Plain facts for PagerSizes; Keys with room.
-/
import Derived.Test.YtipipjpdlblifaaGCut
namespace Go.Proofs.Ytipipjpdlblifaa
open Go.ChangeShapes Go.WideShapes Go.ChangeAt Go.RowKit
set_option linter.unusedVariables false
set_option linter.unusedSimpArgs false

theorem keys_wholeR (l : List Ent) (p d after : ByteArray) (m : Int) (R : Bool) (hR : chkI l R) (hs : Small l) (hp : p.size ≤ 1000) (hd : d.size ≤ 1000) (ha : after.size ≤ 1000) :
    ∃ P k, (((R && hasO 0 60 ko p && hasO 0 1 ko d && pgO after m) = true ∧ okI l ∧ P = pageO (thgs p d l) after m.toNat ∧ k = 0) ∨ ((R && hasO 0 60 ko p && hasO 0 1 ko d && pgO after m) = false ∧ P = noPg ∧ k = 1)) ∧
      Hid (∀ b v, Ents b b.heap.size v l → Calls Try.prog 11 #[v, .string p, .string d, .string after, .int .i64 m] b (KeysR b P k)) := by
  cases h : R && hasO 0 60 ko p && hasO 0 1 ko d && pgO after m with
  | false =>
    refine ⟨noPg, 1, .inr ⟨rfl, rfl, rfl⟩, Lib.hid fun b v ht => ?_⟩
    refine (keys_no l v p d after m b R hR hs hp hd ha ht h).mono ?_
    rintro e w' ⟨rfl, q⟩
    exact ⟨none, 0, none, 0, ⟨Nat.le_refl _, Nat.le_refl _⟩, rfl, Txts.nil _ _, Txts.nil _ _, q⟩
  | true =>
    simp only [Bool.and_eq_true] at h
    have hI : okI l := by rcases hR with ⟨-, h0⟩ | ⟨h0, -⟩; exact h0; rw [h0] at h; simp at h
    have hm : 0 ≤ m := by have := h.2; unfold pgO at this; simp only [Bool.and_eq_true, decide_eq_true_eq] at this; omega
    obtain ⟨n, rfl⟩ : ∃ n : Nat, m = n := ⟨m.toNat, by omega⟩
    exact ⟨_, 0, .inl ⟨rfl, hI, by rw [Int.toNat_natCast], rfl⟩, Lib.hid fun b v ht => keys_room l v p d after n b hI hs h.1.1.2 h.1.2 h.2 ha ht⟩
theorem Txts.take {w : World} {B : Nat} {A : Option Addr} {n c m : Nat} {l : List ByteArray} (h : Txts w B (.slice A n c) l) (hm : m ≤ l.length) : Txts w B (.slice A m c) (l.take m) := by
  obtain ⟨A', c', e, f⟩ := h
  injection e with e1 e2 e3
  refine ⟨A, c, by rw [List.length_take, Nat.min_eq_left hm], fun k hk => ?_⟩
  rw [List.length_take] at hk
  obtain ⟨a, ea, h1, h2⟩ := f k (by omega)
  refine ⟨a, by rw [e1]; exact ea, h1, ?_⟩
  rw [List.getElem_take]; exact h2
/-- Two pages, one of no greater size, and one of size 0. -/
theorem sizes_facts (T : List (ByteArray × Bool)) (after : ByteArray) {lo hi : Nat} (h : lo ≤ hi) (P1 P2 P3 : Pg) (h1 : P1 = pageO T after lo) (h2 : P2 = pageO T after hi) (h3 : P3 = pageO T after 0) :
    P1.keys.length ≤ P2.keys.length ∧ P1.grps.length ≤ P2.grps.length ∧ P2.keys.take P1.keys.length = P1.keys ∧ P2.grps.take P1.grps.length = P1.grps ∧ (P2.more = true → P1.more = true) ∧
      P3.keys = [] ∧ P3.grps = [] ∧ P3.last = ⟨#[]⟩ ∧ P3.more = (decide (0 < P2.keys.length + P2.grps.length) || P2.more) := by
  subst h1 h2 h3
  obtain ⟨B, hB⟩ : ∃ B, B = bhd after T := ⟨_, rfl⟩
  simp only [pageO, pgOf, ← hB]
  have hp : B.take lo <+: B.take hi := by
    rw [show B.take lo = (B.take hi).take lo by rw [List.take_take, Nat.min_eq_left h]]; exact List.take_prefix _ _
  obtain ⟨r, hr⟩ := hp
  have k1 : keysOf (B.take hi) = keysOf (B.take lo) ++ keysOf r := by rw [← hr]; simp [keysOf]
  have k2 : grpsOf (B.take hi) = grpsOf (B.take lo) ++ grpsOf r := by rw [← hr]; simp [grpsOf]
  have hb := both_len (B.take hi)
  refine ⟨by rw [k1, List.length_append]; omega, by rw [k2, List.length_append]; omega, by rw [k1]; simp, by rw [k2]; simp, ?_, rfl, rfl, rfl, ?_⟩
  · simp only [decide_eq_true_eq]; omega
  · rw [hb, List.length_take]
    by_cases h0 : 0 < B.length
    · rw [decide_eq_true h0]
      rcases Nat.eq_zero_or_pos hi with e | e
      · subst e; simp [h0]
      · have : decide (0 < min hi B.length) = true := decide_eq_true (by omega)
        rw [this]; rfl
    · rw [decide_eq_false h0]
      have e : B = [] := List.length_eq_zero_iff.1 (by omega)
      subst e
      simp
theorem pgO_small (a : ByteArray) {m : Int} (h0 : 0 ≤ m) (h1 : m ≤ 1000) : pgO a m = pgO a 0 := by
  unfold pgO; simp [h0, h1]
end Go.Proofs.Ytipipjpdlblifaa
