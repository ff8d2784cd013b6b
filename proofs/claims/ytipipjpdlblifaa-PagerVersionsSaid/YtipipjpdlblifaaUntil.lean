/-
  A region that draws its order, loads cells, calls, and at its end stores into the cells that it has loaded: what is loaded is known till operation st, the first of the stores, comes up.
-/
import Derived.Test.YtipipjpdlblifaaCore
import Derived.Deep.RegionHeld
namespace Go.Proofs.Ytipipjpdlblifaa
open Go.ChangeShapes Go.WideShapes Go.ChangeAt Go.RowKit
set_option linter.unusedVariables false
set_option linter.unusedSimpArgs false

section
variable {P : Program} {ops : Array Oper} {Z : Exit → Act → World → Prop} {md : Region.Mode} {F : World → Prop} {st : Nat}
/-- Till operation st has come up, F holds behind each operation. -/
def Till (P : Program) (md : Region.Mode) (ops : Array Oper) (Z : Exit → Act → World → Prop) (F : World → Prop) (st : Nat) : Nat → Array Bool → Act → World → Prop
  | 0, up, a, w => Region.ready md ops up = [] ∧ Z .normal a w
  | k + 1, up, a, w => (Region.ready md ops up = [] → Z .normal a w) ∧ ∀ i ∈ Region.ready md ops up, wpOp P ops Z i (fun b x => ((up.setIfInBounds i true).getD st true = false → F x) ∧ Till P md ops Z F st k (up.setIfInBounds i true) b x) a w
theorem Till.any : ∀ (k : Nat) (up : Array Bool) (a : Act) (w : World), Till P md ops Z F st k up a w → wpAny P md ops Z k up a w
  | 0, _, _, _, h => h
  | k + 1, _, _, _, h => ⟨h.1, fun i hi => wpOp_mono (fun b x g => Till.any k _ b x g.2) (h.2 i hi)⟩
/-- Operation st waits for operation i. -/
def waitsB (ops : Array Oper) (md : Region.Mode) (st i : Nat) : Bool := match ops[st]? with
  | some o => o.after.any fun e => Region.binds md e && e.on == i
  | none => false
theorem till_begin {id : Nat} {a : Act} {w : World} (hm : P.follows .mixedOrders = true) (hF : F w.drew) (h : F w.drew → Till P .any ops Z F st ops.size (Array.replicate ops.size false) a w.drew) : (Code.region id ops true).wp P Z a w :=
  wp_region_any hm (Till.any _ _ _ _ (h hF))
theorem Till.first {i : Nat} {o : Oper} {v : Value} (hi : ops[i]? = some o) (hsel : ∀ (j : Nat) (x : Oper) cs b, ops[j]? = some x → x.op ≠ .select cs b) (hwait : waitsB ops md st i = true)
    (hZ : ∀ c a w, Z (.panic c) (a.put o.dst v) w → Z (.panic c) a w) : ∀ (k : Nat) (up : Array Bool) (a : Act) (w : World), up.getD st true = false →
      (∀ j x, ops[j]? = some x → j ≠ i → up.getD j true = false → (∀ e ∈ x.after, Region.binds md e = true → e.on ≠ i) → o.apart ops x = true) →
      i ∈ Region.ready md ops up → YieldsIf P ops F o v a → F w → Till P md ops Z F st k (up.setIfInBounds i true) (a.put o.dst v) w → Till P md ops Z F st (k + 1) up a w := by
  have notYet : ∀ up : Array Bool, i ∈ Region.ready md ops up → ∀ j ∈ Region.ready md ops up, j ≠ i → ∀ x, ops[j]? = some x → ∀ e ∈ x.after, Region.binds md e = true → e.on ≠ i := by
    intro up hr j hj hne x hx e he hb heq
    obtain ⟨h0, -⟩ := mem_ready.1 hr
    obtain ⟨-, y, hy, hall⟩ := mem_ready.1 hj
    rw [hx] at hy
    cases hy
    have h1 := hall e he hb
    rw [heq] at h1
    by_cases hs : i < up.size
    · simp [hs] at h0 h1; rw [h0] at h1; cases h1
    · simp [Array.getElem?_eq_none (Nat.le_of_not_lt hs)] at h1
  have notSt : ∀ up : Array Bool, i ∈ Region.ready md ops up → ∀ j ∈ Region.ready md ops up, j ≠ i → j ≠ st := by
    intro up hr j hj hne e
    subst e
    obtain ⟨-, x, hx, -⟩ := mem_ready.1 hj
    unfold waitsB at hwait
    rw [hx] at hwait
    obtain ⟨e, he, hb⟩ := Array.any_eq_true'.1 hwait
    simp only [Bool.and_eq_true, beq_iff_eq] at hb
    exact notYet up hr _ hj hne x hx e he hb.1 hb.2
  intro k
  induction k with
  | zero =>
    intro up a w hst hfree hr hy hF H
    refine ⟨fun e => (by rw [e] at hr; cases hr), fun j hj => ?_⟩
    by_cases hji : j = i
    · subst hji; exact hy.wpOp hi hF ⟨fun _ => hF, H⟩
    · have := ready_mono hj hji
      rw [H.1] at this; cases this
  | succ k ih =>
    intro up a w hst hfree hr hy hF H
    refine ⟨fun e => (by rw [e] at hr; cases hr), fun j hj => ?_⟩
    by_cases hji : j = i
    · subst hji; exact hy.wpOp hi hF ⟨fun _ => hF, H⟩
    · obtain ⟨hjun, x, hx, -⟩ := mem_ready.1 hj
      have hjst := notSt up hr j hj hji
      have hup : (up.setIfInBounds j true).getD st true = false := by rw [getD_set_ne true hjst]; exact hst
      have hup2 : ((up.setIfInBounds i true).setIfInBounds j true).getD st true = false ∨ i = st := by
        by_cases his : i = st
        · exact .inr his
        · left; rw [getD_set_ne true hjst, getD_set_ne true his]; exact hst
      have step := wpOp_putIf hx (hfree j x hx hji hjun (notYet up hr j hj hji x hx)) (fun cs b => hsel i o cs b hi) (fun cs b => hsel j x cs b hx) hZ hy (H.2 j (ready_mono hj hji))
      have hfree' : ∀ m y, ops[m]? = some y → m ≠ i → (up.setIfInBounds j true).getD m true = false → (∀ e ∈ y.after, Region.binds md e = true → e.on ≠ i) → o.apart ops y = true := by
        intro m y hy2 hmi hun hno
        refine hfree m y hy2 hmi ?_ hno
        by_cases hjm : j = m
        · subst hjm; exact hjun
        · rwa [getD_set_ne true hjm] at hun
      refine wpOp_mono (fun b x' g => ?_) step
      obtain ⟨g1, g2, g3⟩ := g
      have hFx : F x' := by
        rcases hup2 with h | h
        · exact g2 h
        · exfalso
          subst h
          unfold waitsB at hwait
          rw [hi] at hwait
          obtain ⟨e, he, hb⟩ := Array.any_eq_true'.1 hwait
          simp only [Bool.and_eq_true, beq_iff_eq] at hb
          obtain ⟨h0, y, hy2, hall⟩ := mem_ready.1 hr
          rw [hi] at hy2
          cases hy2
          have h1 := hall e he hb.1
          rw [hb.2] at h1
          by_cases hs : i < up.size
          · simp [hs] at h0 h1; rw [h0] at h1; cases h1
          · simp [Array.getElem?_eq_none (Nat.le_of_not_lt hs)] at h1
      refine ⟨fun _ => hFx, ih (up.setIfInBounds j true) b x' hup hfree' (ready_mono hr (Ne.symm hji)) g1 hFx ?_⟩
      rw [Array.setIfInBounds_comm _ _ hji]
      exact g3
theorem till_take {i : Nat} {o : Oper} {v : Value} {k : Nat} {up : Array Bool} {a : Act} {w : World} (hi : ops[i]? = some o) (hs : Region.noSelect ops = true) (hf : Region.free md ops up i = true) (hr : (Region.ready md ops up).contains i = true)
    (hwait : waitsB ops md st i = true) (hst : up.getD st true = false) (hZ : ∀ c a w, Z (.panic c) (a.put o.dst v) w → Z (.panic c) a w) (hy : YieldsIf P ops F o v a) (hF : F w)
    (h : Till P md ops Z F st k (up.setIfInBounds i true) (a.put o.dst v) w) : Till P md ops Z F st (k + 1) up a w :=
  Till.first hi (Region.noSelect_spec hs) hwait hZ k up a w hst (Region.free_spec hi hf) (by simpa using hr) hy hF h
/-- One that yields its value in whatever world. -/
theorem Till.pure1 {i : Nat} {o : Oper} {v : Value} (hi : ops[i]? = some o) (hsel : ∀ (j : Nat) (x : Oper) cs b, ops[j]? = some x → x.op ≠ .select cs b) (his : i ≠ st)
    (hZ : ∀ c a w, Z (.panic c) (a.put o.dst v) w → Z (.panic c) a w) : ∀ (k : Nat) (up : Array Bool) (a : Act) (w : World),
      (∀ j x, ops[j]? = some x → j ≠ i → up.getD j true = false → (∀ e ∈ x.after, Region.binds md e = true → e.on ≠ i) → o.apart ops x = true) →
      i ∈ Region.ready md ops up → YieldsIf P ops (fun _ => True) o v a → (up.getD st true = false → F w) → Till P md ops Z F st k (up.setIfInBounds i true) (a.put o.dst v) w → Till P md ops Z F st (k + 1) up a w := by
  have notYet : ∀ up : Array Bool, i ∈ Region.ready md ops up → ∀ j ∈ Region.ready md ops up, j ≠ i → ∀ x, ops[j]? = some x → ∀ e ∈ x.after, Region.binds md e = true → e.on ≠ i := by
    intro up hr j hj hne x hx e he hb heq
    obtain ⟨h0, -⟩ := mem_ready.1 hr
    obtain ⟨-, y, hy, hall⟩ := mem_ready.1 hj
    rw [hx] at hy
    cases hy
    have h1 := hall e he hb
    rw [heq] at h1
    by_cases hs : i < up.size
    · simp [hs] at h0 h1; rw [h0] at h1; cases h1
    · simp [Array.getElem?_eq_none (Nat.le_of_not_lt hs)] at h1
  intro k
  induction k with
  | zero =>
    intro up a w hfree hr hy hF H
    refine ⟨fun e => (by rw [e] at hr; cases hr), fun j hj => ?_⟩
    by_cases hji : j = i
    · subst hji; exact hy.wpOp hi trivial ⟨fun e => hF (by rwa [getD_set_ne true his] at e), H⟩
    · have := ready_mono hj hji
      rw [H.1] at this; cases this
  | succ k ih =>
    intro up a w hfree hr hy hF H
    refine ⟨fun e => (by rw [e] at hr; cases hr), fun j hj => ?_⟩
    by_cases hji : j = i
    · subst hji; exact hy.wpOp hi trivial ⟨fun e => hF (by rwa [getD_set_ne true his] at e), H⟩
    · obtain ⟨hjun, x, hx, -⟩ := mem_ready.1 hj
      have step := wpOp_putIf hx (hfree j x hx hji hjun (notYet up hr j hj hji x hx)) (fun cs b => hsel i o cs b hi) (fun cs b => hsel j x cs b hx) hZ hy (H.2 j (ready_mono hj hji))
      have hfree' : ∀ m y, ops[m]? = some y → m ≠ i → (up.setIfInBounds j true).getD m true = false → (∀ e ∈ y.after, Region.binds md e = true → e.on ≠ i) → o.apart ops y = true := by
        intro m y hy2 hmi hun hno
        refine hfree m y hy2 hmi ?_ hno
        by_cases hjm : j = m
        · subst hjm; exact hjun
        · rwa [getD_set_ne true hjm] at hun
      refine wpOp_mono (fun b x' g => ?_) step
      obtain ⟨g1, g2, g3⟩ := g
      have hFx : (up.setIfInBounds j true).getD st true = false → F x' := fun e => g2 (by
        rw [Array.setIfInBounds_comm _ _ (Ne.symm hji), getD_set_ne true his]; exact e)
      refine ⟨hFx, ih (up.setIfInBounds j true) b x' hfree' (ready_mono hr (Ne.symm hji)) g1 hFx ?_⟩
      rw [Array.setIfInBounds_comm _ _ hji]
      exact g3
theorem till_pure {i : Nat} {o : Oper} {v : Value} {k : Nat} {up : Array Bool} {a : Act} {w : World} (hi : ops[i]? = some o) (hs : Region.noSelect ops = true) (hf : Region.free md ops up i = true) (hr : (Region.ready md ops up).contains i = true)
    (his : i ≠ st) (hZ : ∀ c a w, Z (.panic c) (a.put o.dst v) w → Z (.panic c) a w) (hy : YieldsIf P ops (fun _ => True) o v a) (hF : up.getD st true = false → F w)
    (h : Till P md ops Z F st k (up.setIfInBounds i true) (a.put o.dst v) w) : Till P md ops Z F st (k + 1) up a w :=
  Till.pure1 hi (Region.noSelect_spec hs) his hZ k up a w (Region.free_spec hi hf) (by simpa using hr) hy hF h
/-- The one that comes up next, ahead of st. -/
theorem till_next {i : Nat} {o : Oper} {k : Nat} {up : Array Bool} {a : Act} {w : World} (hr : Region.ready md ops up = [i]) (ho : ops[i]? = some o)
    (h : ∀ K : Act → World → Prop, Shut (∀ b x, F x → (F x → Till P md ops Z F st k (up.setIfInBounds i true) b x) → K b x) → if Region.wanted o (yielded ops a.tmps) = true then Oper.wp P o a w K Z else K (a.put o.dst undef) w) : Till P md ops Z F st (k + 1) up a w := by
  refine ⟨fun e => (by rw [hr] at e; cases e), fun j hj => ?_⟩
  rw [hr] at hj
  obtain rfl : j = i := by simpa using hj
  exact wpOp_step ho (fun K hK => h K (fun b x hF hW => hK b x ⟨fun _ => hF, hW hF⟩))
/-- The one that comes up next, from st on. -/
theorem till_last {i : Nat} {o : Oper} {k : Nat} {up : Array Bool} {a : Act} {w : World} (hr : Region.ready md ops up = [i]) (ho : ops[i]? = some o) (hst : (up.setIfInBounds i true).getD st true = true)
    (h : ∀ K : Act → World → Prop, Shut (∀ b x, Till P md ops Z F st k (up.setIfInBounds i true) b x → K b x) → if Region.wanted o (yielded ops a.tmps) = true then Oper.wp P o a w K Z else K (a.put o.dst undef) w) : Till P md ops Z F st (k + 1) up a w := by
  refine ⟨fun e => (by rw [hr] at e; cases e), fun j hj => ?_⟩
  rw [hr] at hj
  obtain rfl : j = i := by simpa using hj
  exact wpOp_step ho (fun K hK => h K (fun b x hW => hK b x ⟨fun e => (by rw [hst] at e; cases e), hW⟩))
theorem till_done {up : Array Bool} {a : Act} {w : World} (hr : Region.ready md ops up = []) (h : Z .normal a w) : ∀ k, Till P md ops Z F st k up a w
  | 0 => ⟨hr, h⟩
  | _ + 1 => ⟨fun _ => h, by rw [hr]; simp⟩
end
end Go.Proofs.Ytipipjpdlblifaa
