/-
  Plain facts on what is behind all texts that begin with a prefix: octet by octet.
-/
import Derived.Test.YtdjmiiibhcnokaaAfters
namespace Go.Proofs.Ytdjmiiibhcnokaa
set_option linter.unusedVariables false
open Go.ChangeShapes Go.WideShapes Go.ChangeAt Go.RowKit

/-- After, from the front. -/
def aft : List UInt8 → Option (List UInt8)
  | [] => none
  | x :: r => match aft r with
    | some r' => some (x :: r')
    | none => if x.toNat < 126 then some [x + 1] else none

def le126 (l : List UInt8) : Prop := ∀ c ∈ l, c.toNat ≤ 126

theorem u8_succ {x : UInt8} (h : x.toNat < 126) : (x + 1).toNat = x.toNat + 1 := by
  rw [UInt8.toNat_add]; simp; omega

theorem aft_bounds : ∀ (p l : List UInt8), le126 p → le126 l →
    (!(Op.bytesLess l p) && (match aft p with | none => true | some a => Op.bytesLess l a)) = p.isPrefixOf l := by
  intro p
  induction p with
  | nil => intro l _ _; cases l <;> simp [aft, Op.bytesLess]
  | cons x r ih =>
    intro l hp hl
    cases l with
    | nil => simp [Op.bytesLess]
    | cons y m =>
      have hp' : le126 r := fun c hc => hp c (List.mem_cons_of_mem _ hc)
      have hl' : le126 m := fun c hc => hl c (List.mem_cons_of_mem _ hc)
      have hx := hp x (List.mem_cons_self ..)
      have hy := hl y (List.mem_cons_self ..)
      have h := ih m hp' hl'
      by_cases e : y = x
      · subst e
        have nl : ¬ y < y := by simp
        simp only [Op.bytesLess, List.isPrefixOf, aft, beq_self_eq_true, Bool.true_and]
        cases ha : aft r with
        | some r' => rw [ha] at h; simpa [Op.bytesLess, nl] using h
        | none =>
          rw [ha] at h
          simp only [Bool.and_true] at h
          by_cases q : y.toNat < 126
          · have : y < y + 1 := by rw [UInt8.lt_iff_toNat_lt, u8_succ q]; omega
            simp [q, Op.bytesLess, this, nl]; simpa using h
          · simp [q, nl]; simpa using h
      · have e' : ¬ x = y := fun q => e q.symm
        have pf : (x :: r).isPrefixOf (y :: m) = false := by simp [List.isPrefixOf, e']
        rw [pf]
        by_cases lt : y < x
        · simp [Op.bytesLess, lt]
        · have gt : x.toNat < y.toNat := by
            rw [UInt8.lt_iff_toNat_lt] at lt
            have : ¬ x.toNat = y.toNat := fun q => e' (UInt8.toNat_inj.1 q)
            omega
          have bq : (y == x) = false := by simpa using e
          simp only [Op.bytesLess, lt, bq, decide_false, Bool.false_and, Bool.or_false, Bool.not_false, Bool.true_and, aft]
          cases ha : aft r with
          | some r' => simp [Op.bytesLess, lt, bq]
          | none =>
            have q : x.toNat < 126 := by omega
            simp only [q, if_true, Op.bytesLess]
            have n1 : ¬ y < x + 1 := by rw [UInt8.lt_iff_toNat_lt, u8_succ q]; omega
            simp [n1]

theorem aft_facts : ∀ (p a : List UInt8), le126 p → aft p = some a →
    Op.bytesLess p a = true ∧ p.isPrefixOf a = false ∧ a.length ≤ p.length ∧ a ≠ [] ∧ ((∀ c ∈ p, 32 ≤ c.toNat) → ∀ c ∈ a, 32 ≤ c.toNat ∧ c.toNat ≤ 126) := by
  intro p
  induction p with
  | nil => intro a _ h; simp [aft] at h
  | cons x r ih =>
    intro a hp h
    have hp' : le126 r := fun c hc => hp c (List.mem_cons_of_mem _ hc)
    have hx := hp x (List.mem_cons_self ..)
    simp only [aft] at h
    cases ha : aft r with
    | some r' =>
      rw [ha] at h
      simp only [Option.some.injEq] at h
      subst h
      obtain ⟨h1, h2, h3, h4, h5⟩ := ih r' hp' ha
      refine ⟨by simp [Op.bytesLess, h1], by simp [List.isPrefixOf, h2], by simp; omega, by simp, ?_⟩
      intro q c hc
      rcases List.mem_cons.1 hc with rfl | hc
      · exact ⟨q _ (List.mem_cons_self ..), hx⟩
      · exact h5 (fun c hc => q c (List.mem_cons_of_mem _ hc)) c hc
    | none =>
      rw [ha] at h
      by_cases q : x.toNat < 126
      · simp only [q, if_true, Option.some.injEq] at h
        subst h
        have lt : x < x + 1 := by rw [UInt8.lt_iff_toNat_lt, u8_succ q]; omega
        have ne : ¬ x = x + 1 := fun e => by have := congrArg UInt8.toNat e; rw [u8_succ q] at this; omega
        refine ⟨by simp [Op.bytesLess, lt], by simp [List.isPrefixOf, ne], by simp, by simp, ?_⟩
        intro g c hc
        have := g x (List.mem_cons_self ..)
        simp only [List.mem_cons, List.not_mem_nil, or_false] at hc
        subst hc
        rw [u8_succ q]; omega
      · simp [q] at h

/-- From the front as from the end. -/
theorem aft_snoc : ∀ (l : List UInt8) (x : UInt8), x.toNat ≤ 126 → aft (l ++ [x]) = if x.toNat = 126 then aft l else some (l ++ [x + 1]) := by
  intro l
  induction l with
  | nil =>
    intro x hx
    simp only [List.nil_append, aft]
    by_cases e : x.toNat = 126
    · simp [e]
    · have : x.toNat < 126 := by omega
      simp [e, this]
  | cons y l ih =>
    intro x hx
    simp only [List.cons_append, aft]
    rw [ih x hx]
    by_cases e : x.toNat = 126
    · simp [e]
    · simp [e]

theorem trim_aft (p : ByteArray) (hp : allO ko p = true) : ∀ n, n ≤ p.size → (upO p (trimO p n)).data.toList = (aft (p.data.toList.take n)).getD [] := by
  intro n
  induction n with
  | zero => intro _; simp [trimO, upO, aft]
  | succ n ih =>
    intro hn
    have hlt : n < p.size := by omega
    have hk := allO_iff.1 hp n hlt
    have hk' : p[n].toNat ≤ 126 := by simp [ko] at hk; omega
    rw [take_snoc p n hlt, aft_snoc _ _ hk']
    by_cases e : p[n].toNat = 126
    · rw [trimO_go hlt e, if_pos e]; exact ih (by omega)
    · rw [trimO_stop hlt e, if_neg e, upO_at hlt]
      simp

theorem ko_le {p : ByteArray} (hp : allO ko p = true) : le126 p.toList ∧ ∀ c ∈ p.toList, 32 ≤ c.toNat := by
  rw [ByteArray.toList_eq]
  unfold allO at hp
  rw [List.all_eq_true] at hp
  refine ⟨fun c hc => ?_, fun c hc => ?_⟩
  · have := hp c hc; simp [ko] at this; omega
  · have := hp c hc; simp [ko] at this; omega

theorem afterO_list {p : ByteArray} (h : hasO 0 60 ko p = true) : (afterO p).toList = (aft p.toList).getD [] := by
  rw [afterO_yes h, ByteArray.toList_eq, ByteArray.toList_eq, trim_aft p (hasO_all h) p.size (Nat.le_refl _), List.take_of_length_le (by simp)]
theorem underO_list (k p : ByteArray) : underO k p = p.toList.isPrefixOf k.toList := by
  unfold underO
  have hk : k.toList.length = k.size := by rw [ByteArray.toList_eq]; exact Array.length_toList
  have hp : p.toList.length = p.size := by rw [ByteArray.toList_eq]; exact Array.length_toList
  have he : (k.extract 0 p.size).toList = k.toList.take p.size := by
    rw [ByteArray.toList_eq, ByteArray.toList_eq]; simp
  rw [he, Bool.eq_iff_iff]
  simp only [Bool.and_eq_true, decide_eq_true_eq, beq_iff_eq, List.isPrefixOf_iff_prefix]
  constructor
  · rintro ⟨_, h⟩
    rw [← h]; exact List.take_prefix ..
  · intro h
    have := h.length_le
    refine ⟨by omega, ?_⟩
    rw [← hp]; exact (List.prefix_iff_eq_take.1 h).symm
end Go.Proofs.Ytdjmiiibhcnokaa
