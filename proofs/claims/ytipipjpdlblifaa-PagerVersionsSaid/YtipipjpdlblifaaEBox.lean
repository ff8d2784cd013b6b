/-
  What a law on indices wants of what it looks at.
-/
import Derived.Test.YtipipjpdlblifaaEAwake
namespace Go.Proofs.Ytipipjpdlblifaa
open Go.ChangeShapes Go.WideShapes Go.ChangeAt Go.RowKit
set_option linter.unusedVariables false
set_option linter.unusedSimpArgs false

theorem few_allE (l : List Ent) (v : Value) (w : World) (hl : l.length ≤ maxLen) (ht : Ents w w.heap.size v l) :
    ∃ L : List Ent, L = fewE l ∧ L.length ≤ 61 ∧ fewE L = L ∧ (∀ e ∈ L, Tiny e) ∧
      Hid (∀ d, Q w d → Calls Try.prog 22 #[v] d fun e w' => ∃ v', e = .returned v' ∧ Ents w' w'.heap.size v' L ∧ Q d w') := by
  refine ⟨fewE l, rfl, fewE_len l, fewE_few l, fewE_tiny l, Lib.hid fun d q => ?_⟩
  refine (fewE_any l v d hl (ht.on q)).mono ?_
  rintro e w' ⟨v', rfl, o, q'⟩
  exact ⟨v', rfl, o.ents q'.size, q'⟩
/-- Few once more. -/
theorem few_again {L : List Ent} (hl : L.length ≤ 61) (h : fewE L = L) : Hid (∀ b u, Ents b b.heap.size u L → Calls Try.prog 22 #[u] b fun e w' => ∃ v', e = .returned v' ∧ Ents w' w'.heap.size v' L ∧ Q b w') := Lib.hid (fun b u hu => by
  refine (fewE_any L u b (by unfold maxLen; omega) hu).mono ?_
  rintro e w' ⟨v', rfl, o, q'⟩
  rw [h] at o
  exact ⟨v', rfl, o.ents q'.size, q'⟩)
theorem few_allV (l : List Ver) (v : Value) (w : World) (hl : l.length ≤ maxLen) (ht : Vers w w.heap.size v l) :
    ∃ L : List Ver, L = fewV l ∧ L.length ≤ 21 ∧ (∀ x ∈ L, okV x) ∧ (∀ x ∈ L, x.data.size ≤ 2001) ∧
      Hid (∀ d, Q w d → Calls Try.prog 39 #[v] d fun e w' => ∃ v', e = .returned v' ∧ Vers w' w'.heap.size v' L ∧ Q d w') := by
  refine ⟨fewV l, rfl, fewV_len l, fewV_okV ht.okAll', fewV_data, Lib.hid fun d q => ?_⟩
  refine (few_any l v d hl (ht.on q)).mono ?_
  rintro e w' ⟨v', rfl, o, q'⟩
  exact ⟨v', rfl, o.vers (fewV_okV ht.okAll'), q'⟩
theorem few_key (key : ByteArray) (h : key.size ≤ maxLen) : ∃ k, k = fewS key ∧ k.size ≤ 80 ∧ Hid (∀ d, Calls Try.prog 24 #[.string key] d fun e w' => e = .returned (.string k) ∧ Q d w') := by
  refine ⟨fewS key, rfl, fewS_size key, Lib.hid fun d => ?_⟩
  refine (fewS_any key d h).mono ?_
  rintro e w' ⟨rfl, rfl⟩
  exact ⟨rfl, Q.refl _⟩
theorem getE_small {l : List Ent} (key : ByteArray) (h : ∀ e ∈ l, Tiny e) : (getE l key).length ≤ 21 ∧ ∀ x ∈ getE l key, x.data.size ≤ 2001 := by
  rcases getE_what l key with e | ⟨x, hx, e⟩
  · rw [e]; simp
  · rw [e]; exact (h x hx).2
theorem check_hid {l : List Ent} {R : Bool} (hR : chkI l R) (hs : Small l) :
    Hid (∀ b u, Ents b b.heap.size u l → Calls Try.prog 40 #[u] b fun e w' => e = .returned (.int .i64 (chkE R)) ∧ Q b w') := Lib.hid (fun b u hu => checkE_any l u b R hR hs hu)
end Go.Proofs.Ytipipjpdlblifaa
