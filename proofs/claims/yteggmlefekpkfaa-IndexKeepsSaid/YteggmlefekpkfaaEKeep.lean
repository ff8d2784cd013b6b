/-
  How a Keep is opened; what a law on two entries wants.
-/
import Derived.Test.YteggmlefekpkfaaEBox
namespace Go.Proofs.Yteggmlefekpkfaa
open Go.ChangeShapes Go.WideShapes Go.ChangeAt Go.RowKit
set_option linter.unusedVariables false
set_option linter.unusedSimpArgs false

theorem open_keep {H : Type} {enc : TypeId × Value → H} {W : World} {b0 : Nat} {v : Value} {d : DataW H} {p : List MemPlace} (hv : Value.okWide Try.prog W .any b0 45 v)
    (h : DataW.Trod enc Try.prog W 0 (fun _ => true) true 45 v d p) :
    ∃ (u : Value) (l : List Ent) (k o : ByteArray) (uc : Value) (c : List Ver), v = .agg #[u, .string k, .string o, uc] ∧ Ents W W.heap.size u l ∧ l.length ≤ maxLen ∧ k.size ≤ maxLen ∧ o.size ≤ maxLen ∧ Vers W W.heap.size uc c ∧ c.length ≤ maxLen := by
  obtain ⟨cs, rfl, hsz⟩ := okWide_struct Try.underlying45 hv
  have h4 : Try.prog.cellsOf 45 = 4 := by kernel_rfl
  rw [h4] at hsz
  obtain ⟨v0, v1, v2, v3, rfl⟩ : ∃ a b c d, cs = #[a, b, c, d] := by
    obtain ⟨l⟩ := cs
    match l, hsz with
    | [a, b, c, d], _ => exact ⟨a, b, c, d, rfl⟩
  obtain ⟨fuel, hf⟩ := h
  obtain ⟨y0, y1, y2, y3, n', -, -, g0, g1, g2, g3⟩ := Joins.trod_struct4 Try.underlying45 hf
  have c0 : Try.prog.cellsOf 22 = 1 := by kernel_rfl
  have c1 : Try.prog.cellsOf 9 = 1 := by kernel_rfl
  have c3 : Try.prog.cellsOf 23 = 1 := by kernel_rfl
  simp [Value.cells, c0, c1, c3] at g0 g1 g2 g3
  obtain ⟨l, hl, hm⟩ := ents_cell g0
  obtain ⟨s1, e1, -, w1⟩ := DataW.trod_string Try.underlying9 g1
  obtain ⟨s2, e2, -, w2⟩ := DataW.trod_string Try.underlying9 g2
  simp at e1 e2
  subst e1 e2
  obtain ⟨c, hc, hcm⟩ := vers_cellE g3
  exact ⟨v0, l, s1, s2, v3, c, rfl, hl, hm, w1, w2, hc, hcm⟩
theorem keep_on {w w1 : World} {u0 u1 u2 u3 : Value} {t : TypeId} (q : Q (w.alloc (.cells #[u0, u1, u2, u3] t)) w1) :
    w1.cell? ⟨w.heap.size, 0, none⟩ = some u0 ∧ w1.cell? ⟨w.heap.size, 1, none⟩ = some u1 ∧ w1.cell? ⟨w.heap.size, 2, none⟩ = some u2 ∧ w1.cell? ⟨w.heap.size, 3, none⟩ = some u3 := by
  have c : ∀ k, w1.cell? ⟨w.heap.size, k, none⟩ = (w.alloc (.cells #[u0, u1, u2, u3] t)).cell? ⟨w.heap.size, k, none⟩ := fun k => Below.cell q (p := ⟨w.heap.size, k, none⟩) (by simp)
  refine ⟨(c 0).trans ?_, (c 1).trans ?_, (c 2).trans ?_, (c 3).trans ?_⟩ <;> simp
/-- Two boxes of entries. -/
theorem two_on {w w1 : World} {u0 u1 u2 u3 : Value} {t : TypeId} (q : Q ((w.alloc (.cells #[u0, u1] t)).alloc (.cells #[u2, u3] t)) w1) :
    w1.cell? ⟨w.heap.size, 0, none⟩ = some u0 ∧ w1.cell? ⟨w.heap.size, 1, none⟩ = some u1 ∧ w1.cell? ⟨w.heap.size + 1, 0, none⟩ = some u2 ∧ w1.cell? ⟨w.heap.size + 1, 1, none⟩ = some u3 := by
  have c : ∀ k, w1.cell? ⟨w.heap.size, k, none⟩ = ((w.alloc (.cells #[u0, u1] t)).alloc (.cells #[u2, u3] t)).cell? ⟨w.heap.size, k, none⟩ := fun k => Below.cell q (p := ⟨w.heap.size, k, none⟩) (by simp; omega)
  have d : ∀ k, w1.cell? ⟨w.heap.size + 1, k, none⟩ = ((w.alloc (.cells #[u0, u1] t)).alloc (.cells #[u2, u3] t)).cell? ⟨w.heap.size + 1, k, none⟩ := fun k => Below.cell q (p := ⟨w.heap.size + 1, k, none⟩) (by simp)
  have e : ∀ k, ((w.alloc (.cells #[u0, u1] t)).alloc (.cells #[u2, u3] t)).cell? ⟨w.heap.size, k, none⟩ = (w.alloc (.cells #[u0, u1] t)).cell? ⟨w.heap.size, k, none⟩ := fun k => Below.cell ((Q.refl (w.alloc (.cells #[u0, u1] t))).alloc (.cells #[u2, u3] t)) (p := ⟨w.heap.size, k, none⟩) (by simp)
  refine ⟨(c 0).trans ((e 0).trans ?_), (c 1).trans ((e 1).trans ?_), (d 0).trans ?_, (d 1).trans ?_⟩
  · simp
  · simp
  · have : w.heap.size + 1 = (w.alloc (.cells #[u0, u1] t)).heap.size := by simp
    rw [this]; simp
  · have : w.heap.size + 1 = (w.alloc (.cells #[u0, u1] t)).heap.size := by simp
    rw [this]; simp
theorem ent_slice (d : World) {key : ByteArray} {u : Value} {m : List Ver} (hk : key.size ≤ maxLen) (hm : m.length ≤ maxLen) (hu : Vers d d.heap.size u m) :
    Ents (d.alloc (.cells #[.string key, u] 48)) (d.alloc (.cells #[.string key, u] 48)).heap.size (.slice (some ⟨d.heap.size, 0, none⟩) 1 1) [⟨key, m⟩] := by
  refine ⟨_, _, rfl, Nat.le_refl _, (by simp), ?_, fun k hk' => ?_⟩
  · intro x hx
    obtain rfl : x = ⟨key, m⟩ := by simpa using hx
    exact ⟨hk, hm⟩
  · have k0 : k = 0 := by simpa using hk'
    subst k0
    refine ⟨_, rfl, by simp, ?_, u, ?_, hu.on ((Q.refl d).alloc _)⟩
    · simp [Addr.add]
    · simp [Addr.add]
theorem few_oneE (key : ByteArray) (m : List Ver) (hm : ∀ x ∈ m, okV x) : Hid (∀ b u, Ents b b.heap.size u [⟨key, m⟩] → Calls Try.prog 9 #[u] b fun e w' => ∃ v', e = .returned v' ∧ Ents w' w'.heap.size v' [⟨fewS key, fewV m⟩] ∧ Q b w') := Lib.hid (fun b u hu => by
  refine (fewE_any [⟨key, m⟩] u b (by simp [maxLen]) hu).mono ?_
  rintro e w' ⟨v', rfl, o, q'⟩
  exact ⟨v', rfl, o.ents q'.size, q'⟩)
theorem ent_slice' (d : World) {g : Nat} {key : ByteArray} {u : Value} {m : List Ver} (hg : g = d.heap.size) (hk : key.size ≤ maxLen) (hm : m.length ≤ maxLen) (hu : Vers d d.heap.size u m) :
    Ents (d.alloc (.cells #[.string key, u] 48)) (d.alloc (.cells #[.string key, u] 48)).heap.size (.slice (some ⟨g, 0, none⟩) 1 1) [⟨key, m⟩] := by
  subst hg; exact ent_slice d hk hm hu
/-- The one entry of a slice, as it lies in every later world. -/
theorem one_pick {w : World} {v : Value} {key : ByteArray} {m : List Ver} (h : Ents w w.heap.size v [⟨key, m⟩]) :
    ∃ (a : Addr) (c : Nat) (A : Option Addr) (k : Nat), v = .slice (some a) 1 c ∧ Vers w w.heap.size (.slice A m.length k) m ∧ Hid (∀ d, Q w d → d.cell? a = some (.string key) ∧ d.cell? ⟨a.block, a.off + 1, none⟩ = some (.slice A m.length k)) := by
  obtain ⟨a, c, hv, -, A, k, hvs, hat⟩ := h.pick 0 (by simp)
  refine ⟨a, c, A, k, hv, hvs, Lib.hid fun d q => ?_⟩
  have h0 : a.add (0 * 2) = a := by simp [Addr.add]
  obtain ⟨d0, d1⟩ := hat d q
  rw [h0] at d0 d1
  exact ⟨d0, d1⟩
end Go.Proofs.Yteggmlefekpkfaa
