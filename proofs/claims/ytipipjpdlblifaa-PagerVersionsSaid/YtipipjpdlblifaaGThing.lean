/-
  Contracts of the document's Thing.
-/
import Derived.Test.YtipipjpdlblifaaGMath
import Derived.Test.YtipipjpdlblifaaEPlain
import Derived.Test.YtipipjpdlblifaaECheck
namespace Go.Proofs.Ytipipjpdlblifaa
open Go.ChangeShapes Go.WideShapes Go.ChangeAt Go.RowKit
set_option linter.unusedVariables false
set_option linter.unusedSimpArgs false

/-- What Thing tells. -/
def thO (e : Ent) (p d : ByteArray) : ByteArray × Bool := if isT p e then ((tgO e.key p d).1, true) else (⟨#[]⟩, false)
theorem ret_th {a b : ByteArray × Bool} (h : a = b) : Ending.returned (.tuple #[.string a.1, .bool a.2]) = .returned (.tuple #[.string b.1, .bool b.2]) := by rw [h]
theorem ret_th' {g : ByteArray} {b : Bool} {x : ByteArray × Bool} (h : x = (g, b)) : Ending.returned (.tuple #[.string g, .bool b]) = .returned (.tuple #[.string x.1, .bool x.2]) := by rw [h]
set_option maxHeartbeats 2000000 in
theorem rthing_any (e : Ent) (u : Value) (p d : ByteArray) (w : World) (h0 : 0 < e.L.length) (hk : e.key.size ≤ 1000) (hp : p.size ≤ 1000) (hd : d.size ≤ 1000) (ht : Vers w w.heap.size u e.L) :
    Calls Try.prog 34 #[.agg #[.string e.key, u], .string p, .string d] w fun e' w' => e' = .returned (.tuple #[.string (thO e p d).1, .bool (thO e p d).2]) ∧ Q w w' := by
  have HF := Lib.hid (show thO e p d = if isT p e then ((tgO e.key p d).1, true) else (⟨#[]⟩, false) from rfl)
  have HI := Lib.hid (show isT p e = (underO e.key p && !hdM e) from rfl)
  have HG := Lib.hid (show tgO e.key p d = if (groupO e.key p d).2 then ((groupO e.key p d).1, true) else (e.key, false) from rfl)
  have U := Lib.hid fun b => runder_any e.key p b hk hp
  have G := Lib.hid fun b => rgroup_any e.key p d b hk hp hd
  obtain ⟨g, b, hgb⟩ : ∃ g b, groupO e.key p d = (g, b) := ⟨_, _, rfl⟩
  obtain ⟨m, L, hL⟩ : ∃ m L, e.L = m :: L := by cases h : e.L with
    | nil => rw [h] at h0; simp at h0
    | cons m L => exact ⟨m, L, rfl⟩
  have hm : hdM e = m.mark := by simp [hdM, hL]
  have q0 := (Q.refl w).alloc (.cells #[.string e.key, u] 61)
  obtain ⟨A, c, hu, -, -, -, hcells⟩ := ht
  obtain ⟨a, rfl, ha, hat⟩ := hcells 0 h0
  rw [Nat.zero_mul, show a.add 0 = a by cases a; simp [Addr.add]] at hat
  have AT : Hid (∀ b, Q (w.alloc (.cells #[.string e.key, u] 61)) b → At b a m) := Lib.hid (fun b q => by
    have : At w a m := by simpa [hL] using hat
    exact this.keep ha fun _ hp => Below.cell (q0.trans q) hp)
  have hp2 : (0 : Int) < (e.L.length : Int) := by omega
  subst hu
  rw [hgb] at G HG
  rw [hm] at HI
  obtain ⟨k, hk'⟩ : ∃ k, k = e.key := ⟨_, rfl⟩
  obtain ⟨n, hn⟩ : ∃ n, n = e.L.length := ⟨_, rfl⟩
  rw [← hn] at hp2 h0 q0 AT ⊢
  rw [← hk'] at U G q0 AT HI HG HF ⊢
  have HB : Hid (∀ b, Q (w.alloc (.cells #[.string k, .slice (some a) n c] 61)) b → b.cell? ⟨w.heap.size, 0, none⟩ = some (.string k) ∧ b.cell? ⟨w.heap.size, 1, none⟩ = some (.slice (some a) n c)) := Lib.hid fun b q => boxE_of q
  clear hat hcells hL hn hk' hk hm
  cases hun : underO k p with
  | false =>
    rw [hun] at U HI
    go_enter Try.func34, Try.ntmps34
    go_wp2_with fail
    refine (U.out _).mono ?_
    rintro e1 w1 ⟨rfl, rfl⟩
    go_wp2
    go_ret2
    exact ⟨ret_th' (by rw [HF.out, HI.out]; simp), q0⟩
  | true =>
    rw [hun] at U HI
    cases hmm : m.mark with
    | true =>
      rw [hmm] at HI
      obtain ⟨c0, c1, c2, c3⟩ := AT.out _ (Q.refl _)
      rw [hmm] at c2
      go_enter Try.func34, Try.ntmps34
      go_wp2_with fail
      refine (U.out _).mono ?_
      rintro e1 w1 ⟨rfl, rfl⟩
      go_wp2
      go_ret2
      exact ⟨ret_th' (by rw [HF.out, HI.out]; simp), q0⟩
    | false =>
      rw [hmm] at HI
      obtain ⟨c0, c1, c2, c3⟩ := AT.out _ (Q.refl _)
      rw [hmm] at c2
      cases b with
      | true =>
        go_enter Try.func34, Try.ntmps34
        go_wp2_with fail
        refine (U.out _).mono ?_
        rintro e1 w1 ⟨rfl, rfl⟩
        go_wp2_with fail
        refine (G.out _).mono ?_
        rintro e1 w2 ⟨rfl, q2⟩
        go_wp2
        go_ret2
        exact ⟨ret_th' (by rw [HF.out, HI.out, HG.out]; simp), q0.trans q2⟩
      | false =>
        go_enter Try.func34, Try.ntmps34
        go_wp2_with fail
        refine (U.out _).mono ?_
        rintro e1 w1 ⟨rfl, rfl⟩
        go_wp2_with fail
        refine (G.out _).mono ?_
        rintro e1 w2 ⟨rfl, q2⟩
        obtain ⟨b0, b1⟩ := HB.out _ q2
        go_wp2
        go_ret2
        exact ⟨ret_th' (by rw [HF.out, HI.out, HG.out]; simp), q0.trans q2⟩
end Go.Proofs.Ytipipjpdlblifaa
