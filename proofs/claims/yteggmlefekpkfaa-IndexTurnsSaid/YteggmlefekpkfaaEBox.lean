/-
  What a law on indices wants of what it looks at.
-/
import Derived.Test.YteggmlefekpkfaaEAwake
namespace Go.Proofs.Yteggmlefekpkfaa
open Go.ChangeShapes Go.WideShapes Go.ChangeAt Go.RowKit
set_option linter.unusedVariables false
set_option linter.unusedSimpArgs false

theorem few_allE (l : List Ent) (v : Value) (w : World) (hl : l.length ≤ maxLen) (ht : Ents w w.heap.size v l) :
    ∃ L : List Ent, L = fewE l ∧ L.length ≤ 61 ∧ fewE L = L ∧ (∀ e ∈ L, Tiny e) ∧
      Hid (∀ d, Q w d → Calls Try.prog 9 #[v] d fun e w' => ∃ v', e = .returned v' ∧ Ents w' w'.heap.size v' L ∧ Q d w') := by
  refine ⟨fewE l, rfl, fewE_len l, fewE_few l, fewE_tiny l, Lib.hid fun d q => ?_⟩
  refine (fewE_any l v d hl (ht.on q)).mono ?_
  rintro e w' ⟨v', rfl, o, q'⟩
  exact ⟨v', rfl, o.ents q'.size, q'⟩
/-- Few once more. -/
theorem few_again {L : List Ent} (hl : L.length ≤ 61) (h : fewE L = L) : Hid (∀ b u, Ents b b.heap.size u L → Calls Try.prog 9 #[u] b fun e w' => ∃ v', e = .returned v' ∧ Ents w' w'.heap.size v' L ∧ Q b w') := Lib.hid (fun b u hu => by
  refine (fewE_any L u b (by unfold maxLen; omega) hu).mono ?_
  rintro e w' ⟨v', rfl, o, q'⟩
  rw [h] at o
  exact ⟨v', rfl, o.ents q'.size, q'⟩)
theorem few_allV (l : List Ver) (v : Value) (w : World) (hl : l.length ≤ maxLen) (ht : Vers w w.heap.size v l) :
    ∃ L : List Ver, L = fewV l ∧ L.length ≤ 21 ∧ (∀ x ∈ L, okV x) ∧ (∀ x ∈ L, x.data.size ≤ 2001) ∧
      Hid (∀ d, Q w d → Calls Try.prog 11 #[v] d fun e w' => ∃ v', e = .returned v' ∧ Vers w' w'.heap.size v' L ∧ Q d w') := by
  refine ⟨fewV l, rfl, fewV_len l, fewV_okV ht.okAll', fewV_data, Lib.hid fun d q => ?_⟩
  refine (few_any l v d hl (ht.on q)).mono ?_
  rintro e w' ⟨v', rfl, o, q'⟩
  exact ⟨v', rfl, o.vers (fewV_okV ht.okAll'), q'⟩
theorem few_key (key : ByteArray) (h : key.size ≤ maxLen) : ∃ k, k = fewS key ∧ k.size ≤ 80 ∧ Hid (∀ d, Calls Try.prog 10 #[.string key] d fun e w' => e = .returned (.string k) ∧ Q d w') := by
  refine ⟨fewS key, rfl, fewS_size key, Lib.hid fun d => ?_⟩
  refine (fewS_any key d h).mono ?_
  rintro e w' ⟨rfl, rfl⟩
  exact ⟨rfl, Q.refl _⟩
theorem sameE_yes (a : List Ent) (sa : Small a) : Hid (∀ b u v, Ents b b.heap.size u a → Ents b b.heap.size v a → Calls Try.prog 14 #[u, v] b fun e w' => e = .returned (.bool true) ∧ Q b w') := Lib.hid (fun b u v hu hv => by
  refine (rsameE_any a a u v b true (.inl ⟨rfl, rfl⟩) sa sa hu hv).mono ?_
  rintro e w' ⟨rfl, d⟩
  exact ⟨rfl, d.q⟩)
theorem sameV_yes (a : List Ver) (sa : a.length ≤ 1000) : Hid (∀ b u v, Vers b b.heap.size u a → Vers b b.heap.size v a → Calls Try.prog 21 #[u, v] b fun e w' => e = .returned (.bool true) ∧ Q b w') := Lib.hid (fun b u v hu hv => by
  refine (rsame_any a a u v b true (.inl ⟨rfl, rfl⟩) sa sa hu hv).mono ?_
  rintro e w' ⟨rfl, d⟩
  exact ⟨rfl, d.q⟩)
theorem putE_hid {l : List Ent} {key : ByteArray} {m : List Ver} {L : List Ent} {k : Nat} (hP : PutI l key m L k) (hs : Small l) (hk : key.size ≤ 1000) (hm : m.length ≤ 1000) :
    Hid (∀ b u uc, Ents b b.heap.size u l → Vers b b.heap.size uc m → Calls Try.prog 12 #[u, .string key, uc] b fun e w' => ∃ v', e = .returned (.tuple #[v', .int .i64 (k : Nat)]) ∧ Ents w' w'.heap.size v' L ∧ Q b w') :=
  Lib.hid (fun b u uc h1 h2 => putE_any l key m L k hP u uc b hs hk hm h1 h2)
theorem rputE_hid {l : List Ent} {key : ByteArray} {m : List Ver} {L : List Ent} {k : Nat} (hP : PutI l key m L k) (hs : Small l) (hk : key.size ≤ 1000) (hm : m.length ≤ 1000) :
    Hid (∀ b u uc, Ents b b.heap.size u l → Vers b b.heap.size uc m → Calls Try.prog 13 #[u, .string key, uc] b fun e w' => ∃ v', e = .returned (.tuple #[v', .int .i64 (k : Nat)]) ∧ Ents w' w'.heap.size v' L ∧ Q b w') :=
  Lib.hid (fun b u uc h1 h2 => rputE_any l key m L k hP u uc b hs hk hm h1 h2)
theorem getE_hid (l : List Ent) (key : ByteArray) (hs : Small l) (ok : ∀ e ∈ l, ∀ x ∈ e.L, okV x) :
    Hid (∀ b u, Ents b b.heap.size u l → Calls Try.prog 22 #[u, .string key] b fun e w' => ∃ v', e = .returned v' ∧ Vers w' w'.heap.size v' (getE l key) ∧ Q b w') := Lib.hid (fun b u hu => by
  refine (getE_any l key u b hs hu).mono ?_
  rintro e w' ⟨v', rfl, o, q'⟩
  refine ⟨v', rfl, o.vers ?_, q'⟩
  rcases getE_what l key with e | ⟨x, hx, e⟩
  · rw [e]; simp
  · rw [e]; exact ok x hx)
theorem getE_small {l : List Ent} (key : ByteArray) (h : ∀ e ∈ l, Tiny e) : (getE l key).length ≤ 21 ∧ ∀ x ∈ getE l key, x.data.size ≤ 2001 := by
  rcases getE_what l key with e | ⟨x, hx, e⟩
  · rw [e]; simp
  · rw [e]; exact (h x hx).2
theorem at_hid (l : List Ent) (key : ByteArray) (hl : l.length ≤ 1000) :
    Hid (∀ b u, Ents b b.heap.size u l → Calls Try.prog 19 #[u, .string key] b fun e w' => e = .returned (.int .i64 (atE l key : Nat)) ∧ Q b w') := Lib.hid (fun b u hu => at_any l key u b hl hu)
theorem check_hid {l : List Ent} {R : Bool} (hR : chkI l R) (hs : Small l) :
    Hid (∀ b u, Ents b b.heap.size u l → Calls Try.prog 15 #[u] b fun e w' => e = .returned (.int .i64 (chkE R)) ∧ Q b w') := Lib.hid (fun b u hu => checkE_any l u b R hR hs hu)
end Go.Proofs.Yteggmlefekpkfaa
