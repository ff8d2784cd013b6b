/-
  Plain facts for ChainKeeps: what one act comes to.
-/
import Derived.Test.YtflfhigldkdlmaaVTurn
namespace Go.Proofs.Ytflfhigldkdlmaa
open Go.ChangeShapes Go.WideShapes Go.ChangeAt Go.RowKit
set_option linter.unusedVariables false
set_option linter.unusedSimpArgs false

/-- What stands ahead of act i. -/
def KeepI (C : List Ver) (i : Nat) : Prop := okP C ∧ (∀ y ∈ C, okV y) ∧ ∀ y ∈ C, y.id ≤ i ∧ y.tm ≤ (i : Int)
theorem keep_nil : KeepI [] 0 := ⟨okP_nil, by simp, by simp⟩
theorem KeepI.more {C : List Ver} {i : Nat} (h : KeepI C i) : KeepI C (i + 1) :=
  ⟨h.1, h.2.1, fun y hy => ⟨by have := (h.2.2 y hy).1; omega, by have := (h.2.2 y hy).2; omega⟩⟩
/-- What is not of ID 0 is found still when ID 0 is gone. -/
theorem find_wo {l : List Ver} {n : Nat} (hn : n ≠ 0) : findV (woV l 0) n = findV l n := by
  induction l with
  | nil => rfl
  | cons x r ih =>
    by_cases hx : x.id = 0
    · have e1 : woV (x :: r) 0 = woV r 0 := by unfold woV; rw [List.filter_cons_of_neg (by simp [hx])]
      have e2 : findV (x :: r) n = findV r n := by unfold findV; rw [List.find?_cons_of_neg (by simp [hx]; omega)]
      rw [e1, e2, ih]
    · have e1 : woV (x :: r) 0 = x :: woV r 0 := by unfold woV; rw [List.filter_cons_of_pos (by simp [hx])]
      rw [e1]
      by_cases hxn : x.id = n
      · unfold findV; rw [List.find?_cons_of_pos (by simp [hxn]), List.find?_cons_of_pos (by simp [hxn])]
      · have e3 : findV (x :: woV r 0) n = findV (woV r 0) n := by unfold findV; rw [List.find?_cons_of_neg (by simp [hxn])]
        have e4 : findV (x :: r) n = findV r n := by unfold findV; rw [List.find?_cons_of_neg (by simp [hxn])]
        rw [e3, e4, ih]
theorem find_cons_ne {l : List Ver} {x : Ver} {n : Nat} (h : x.id ≠ n) : findV (x :: l) n = findV l n := by
  unfold findV; rw [List.find?_cons_of_neg (by simp [h])]
theorem find_cons_eq {l : List Ver} {x : Ver} : findV (x :: l) x.id = some x := by
  unfold findV; rw [List.find?_cons_of_pos (by simp)]
/-- What an act comes to: it is refused, and may be; or the chain goes on. v: the version as it stands in the box (with ID 0, unless the state is On). -/
def Refused (C : List Ver) (del : Bool) (n : Nat) (e : Nat) : Prop := e ≠ 0 ∧ (e = 6 → 20 ≤ C.length) ∧ (e = 4 → del = true) ∧ (e = 1 → 2000 < n)
def Kept (C : List Ver) (i : Nat) (L : List Ver) : Prop := KeepI L (i + 1) ∧ ∀ x : Ver, x.id ≠ 0 → x.id ≤ i → findV C x.id = some x → findV L x.id = some x
theorem keep_put {C L : List Ver} {i e : Nat} {s : Int} {x : Ver} (h : KeepI C i) (hp : PutC C s x L e) (h0 : 0 ≤ s) (h2 : s ≤ 2) (hid : x.id = i + 1 ∨ (x.id = 0 ∧ s = 2)) (htm : x.tm = i) (hi : i ≤ 30) (hx : okV x) (hmk : x.mark = true → x.data.size = 0) :
    Refused C false x.data.size e ∨ (e = 0 ∧ Kept C i L ∧ L.head? = some (if s = 1 then x else zeroId x) ∧ (s = 1 → x.id = i + 1)) := by
  obtain ⟨k1, k2, k3⟩ := h
  have hmay : mayV x = false → 2000 < x.data.size := fun hm => by
    by_cases hd : x.data.size ≤ 2000
    · have : mayV x = true := mayV_iff.2 ⟨by omega, hd, hmk, by omega, by omega⟩
      rw [hm] at this; simp at this
    · omega
  cases hp with
  | chk h => exact absurd k1 h
  | state _ h => omega
  | may _ _ _ h => exact .inl ⟨by omega, by omega, by omega, fun _ => hmay h⟩
  | zero _ h3 h4 h5 => omega
  | late _ _ _ _ _ h =>
    obtain ⟨y, m, rfl, hy⟩ := h
    have := (k3 y (by simp)).2
    omega
  | order _ h3 _ h5 _ h6 =>
    obtain ⟨y, hy, hle⟩ := List.any_eq_true.1 h6
    have h7 := (k3 y hy).1
    have h8 : x.id ≤ y.id := by simpa using hle
    omega
  | large _ _ _ _ _ _ h => exact .inl ⟨by omega, fun _ => h, by omega, by omega⟩
  | on h1 h3 h4 h5 h6 h7 h8 =>
    right
    have hxi : x.id = i + 1 := by omega
    refine ⟨rfl, ⟨⟨putC_ok (PutC.on h1 h3 h4 h5 h6 h7 h8), ?_, ?_⟩, fun z hz hzi hf => ?_⟩, by rw [if_pos h3]; rfl, fun _ => hxi⟩
    · intro y hy
      rcases List.mem_cons.1 hy with rfl | hy
      · exact hx
      · exact k2 y hy
    · intro y hy
      rcases List.mem_cons.1 hy with rfl | hy
      · exact ⟨by omega, by omega⟩
      · have := k3 y hy
        exact ⟨by omega, by omega⟩
    · rw [find_cons_ne (by omega)]; exact hf
  | large0 _ _ _ _ h =>
    have := wo_length C 0
    exact .inl ⟨by omega, by omega, by omega, by omega⟩
  | over h1 h3 h4 h5 h6 =>
    right
    refine ⟨rfl, ⟨⟨putC_ok (PutC.over h1 h3 h4 h5 h6), ?_, ?_⟩, fun z hz hzi hf => ?_⟩, by rw [if_neg (by omega)]; rfl, by omega⟩
    · intro y hy
      rcases List.mem_cons.1 hy with rfl | hy
      · exact zeroId_ok hx
      · exact k2 y (wo_mem.1 hy).1
    · intro y hy
      rcases List.mem_cons.1 hy with rfl | hy
      · exact ⟨by show 0 ≤ i + 1; omega, by show x.tm ≤ _; omega⟩
      · have := k3 y (wo_mem.1 hy).1
        exact ⟨by omega, by omega⟩
    · rw [find_cons_ne (show (zeroId x).id ≠ z.id from fun e => hz e.symm), find_wo hz]; exact hf
theorem keep_drop {C L : List Ver} {i e : Nat} (h : KeepI C i) (hp : DropC C 0 L e) : Refused C true 0 e ∨ (e = 0 ∧ Kept C i L) := by
  obtain ⟨k1, k2, k3⟩ := h
  cases hp with
  | chk h => exact absurd k1 h
  | none _ _ => exact .inl ⟨by omega, by omega, fun _ => rfl, by omega⟩
  | yes h1 h2 =>
    right
    refine ⟨rfl, ⟨okP_wo h1 0, wo_ok k2, fun y hy => ?_⟩, fun z hz _ hf => by rw [find_wo hz]; exact hf⟩
    have := k3 y (wo_mem.1 hy).1
    exact ⟨by omega, by omega⟩
end Go.Proofs.Ytflfhigldkdlmaa
