/-
  Contract of the document's Put.
-/
import Derived.Test.YtipipjpdlblifaaECheck
namespace Go.Proofs.Ytipipjpdlblifaa
open Go.ChangeShapes Go.WideShapes Go.ChangeAt Go.RowKit
set_option linter.unusedVariables false
set_option linter.unusedSimpArgs false

/-- The index in which a key has these versions. -/
def putE (l : List Ent) (key : ByteArray) (c : List Ver) : List Ent := l.filter (fun e => ltB e.key key) ++ (if c = [] then [] else [⟨key, c⟩]) ++ l.filter (fun e => ltB key e.key)
/-- What Put comes to: refused (1), too large (6), or laid. -/
def PutI (l : List Ent) (key : ByteArray) (c : List Ver) (L : List Ent) (k : Nat) : Prop :=
  (¬ (okI l ∧ hasO 1 60 ko key = true ∧ okP c) ∧ L = [] ∧ k = 1) ∨ ((okI l ∧ hasO 1 60 ko key = true ∧ okP c) ∧ ((60 < (putE l key c).length ∧ L = [] ∧ k = 6) ∨ ((putE l key c).length ≤ 60 ∧ L = putE l key c ∧ k = 0)))
theorem putI_ex (l : List Ent) (key : ByteArray) (c : List Ver) : ∃ L k, PutI l key c L k := by
  by_cases h : okI l ∧ hasO 1 60 ko key = true ∧ okP c
  · by_cases k : (putE l key c).length ≤ 60
    · exact ⟨_, _, .inr ⟨h, .inr ⟨k, rfl, rfl⟩⟩⟩
    · exact ⟨_, _, .inr ⟨h, .inl ⟨by omega, rfl, rfl⟩⟩⟩
  · exact ⟨_, _, .inl ⟨h, rfl, rfl⟩⟩
theorem putI_one {l : List Ent} {key : ByteArray} {c : List Ver} {L M : List Ent} {j k : Nat} (h : PutI l key c L k) (h' : PutI l key c M j) : L = M ∧ k = j := by
  rcases h with ⟨h1, rfl, rfl⟩ | ⟨h1, h2⟩
  · rcases h' with ⟨-, rfl, rfl⟩ | ⟨k1, -⟩
    · exact ⟨rfl, rfl⟩
    · exact absurd k1 h1
  · rcases h' with ⟨k1, -⟩ | ⟨-, k2⟩
    · exact absurd h1 k1
    · rcases h2 with ⟨a, rfl, rfl⟩ | ⟨a, rfl, rfl⟩
      · rcases k2 with ⟨b, rfl, rfl⟩ | ⟨b, -⟩
        · exact ⟨rfl, rfl⟩
        · omega
      · rcases k2 with ⟨b, -⟩ | ⟨b, rfl, rfl⟩
        · omega
        · exact ⟨rfl, rfl⟩
theorem filt_take (l : List Ent) (i : Nat) (h : i < l.length) (p : Ent → Bool) : (p l[i] = true → (l.take (i + 1)).filter p = (l.take i).filter p ++ [l[i]]) ∧ (p l[i] = false → (l.take (i + 1)).filter p = (l.take i).filter p) := by
  rw [List.take_succ_eq_append_getElem h, List.filter_append]
  refine ⟨fun k => ?_, fun k => ?_⟩
  · rw [List.filter_cons_of_pos k]; simp
  · rw [List.filter_cons_of_neg (by simp [k])]; simp
theorem filt_le (l : List Ent) (i : Nat) (p : Ent → Bool) : ((l.take i).filter p).length ≤ l.length := by
  have := List.length_filter_le p (l.take i)
  rw [List.length_take] at this; omega
theorem ownE_step {base : Nat} {w w' : World} {v v' u : Value} {P : List (Ent × Value)} {x : Ent} {o : Obj} (hr : RowE base w v P) (hf : ∀ p ∈ P, p.1.key.size ≤ maxLen ∧ Apt base w p.2 p.1.L) (hq : x.key.size ≤ maxLen) (ax : Apt base w u x.L)
    (h1 : w'.ownsRow base 61 2 v' (P.length + 1) (P.flatMap pcells ++ pcells (x, u))) (h2 : (w.alloc o).grownBy w' v.ownBlock) (hs : base ≤ w.heap.size) : OwnE base w' v' (P.map (·.1) ++ [x]) :=
  OwnE.snoc (p := (x, u)) (RowE.on hr ((Q.refl w).alloc _)) (fun q hq => ⟨(hf q hq).1, (hf q hq).2.on ((Q.refl w).alloc _) hs⟩) hq (ax.on ((Q.refl w).alloc _) hs) h1 h2 (by simp; omega)

end Go.Proofs.Ytipipjpdlblifaa
