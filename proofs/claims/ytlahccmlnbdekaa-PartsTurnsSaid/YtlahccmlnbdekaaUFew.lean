/-
  Contracts of the statements' One and Few.
-/
import Derived.Test.YtlahccmlnbdekaaUWhole
import Derived.Test.YtlahccmlnbdekaaUStep
namespace Go.Proofs.Ytlahccmlnbdekaa
open Go.ChangeShapes Go.WideShapes Go.ChangeAt Go.RowKit
set_option linter.unusedVariables false
set_option linter.unusedSimpArgs false
set_option maxRecDepth 100000

def oneD (d : ByteArray) : ByteArray := if 2001 < d.size then d.extract 0 2001 else d
theorem oneD_size (d : ByteArray) : (oneD d).size ≤ 2001 := by
  unfold oneD; split
  · rw [size_cut _ (by omega)]; omega
  · omega
def oneP (p : Prt) : Prt := ⟨p.n, oneD p.data⟩
theorem okP_one {p : Prt} (h : okP p) : okP (oneP p) := ⟨h.1, h.2.1, by have := oneD_size p.data; unfold maxLen; show (oneD p.data).size ≤ _; omega⟩
def fewU (u : Upl) : Upl := ⟨u.id, fewS u.key, (u.L.take 31).map oneP⟩
def fewL (l : List Upl) : List Upl := (l.take 11).map fewU
theorem fewL_sm (l : List Upl) : smL (fewL l) := by
  refine ⟨by rw [fewL, List.length_map, List.length_take]; omega, fun x hx => ?_⟩
  rw [fewL, List.mem_map] at hx
  obtain ⟨y, hy, rfl⟩ := hx
  refine ⟨by have := fewS_size y.key; show (fewS y.key).size ≤ 1000; omega, by show ((y.L.take 31).map oneP).length ≤ 1000; rw [List.length_map, List.length_take]; omega, fun p hp => ?_⟩
  have hp2 : p ∈ (y.L.take 31).map oneP := hp
  rw [List.mem_map] at hp2
  obtain ⟨z, hz, rfl⟩ := hp2
  have := oneD_size z.data
  show (oneD z.data).size ≤ 5000
  omega
set_option maxHeartbeats 4000000 in
theorem onePt_any (p : Prt) (w : World) (hp : p.data.size ≤ maxLen) :
    Calls Try.prog 11 #[prt p] w fun e w' => e = .returned (prt (oneP p)) ∧ Q w w' := by
  obtain ⟨n, d⟩ := p
  simp only at hp
  unfold maxLen at hp
  have q0 := (Q.refl w).alloc (.cells #[.int .i64 n, .string d] 25)
  have b1 : Bx ((w.alloc (.cells #[.int .i64 n, .string d] 25)).alloc (.cells #[.int .i64 0, .string ⟨#[]⟩] 25)) w.heap.size 25 #[.int .i64 n, .string d] := (Bx.new w _ _).alloc _
  have b2 : Bx ((w.alloc (.cells #[.int .i64 n, .string d] 25)).alloc (.cells #[.int .i64 0, .string ⟨#[]⟩] 25)) (w.heap.size + 1) 25 #[.int .i64 0, .string ⟨#[]⟩] := by
    have := Bx.new (w.alloc (.cells #[.int .i64 n, .string d] 25)) 25 #[.int .i64 0, .string ⟨#[]⟩]
    rw [World.size_alloc] at this; exact this
  have qq := q0.alloc (.cells #[.int .i64 0, .string ⟨#[]⟩] 25)
  rw [prt, prt, oneP]
  simp only
  by_cases h : 2001 < d.size
  · have h' : (2001 : Int) < (d.size : Int) := by omega
    have HV : Hid (oneD d = d.extract 0 2001) := Lib.hid (by rw [oneD, if_pos h])
    go_enter Try.func11, Try.ntmps11
    go_wp2_with fail
    (try simp only [Exit.inBlock, Exit.then])
    refine bodyPost_ret (v := .agg #[.int .i64 n, .string (d.extract 0 2001)]) ?_ rfl ⟨by rw [HV.out], (?_ : Q w _)⟩
    · simp [results, Try.results11, go_sem]
    · exact ((Q.refl w).alloc _).alloc _
  · have h' : ¬ (2001 : Int) < (d.size : Int) := by omega
    have HV : Hid (oneD d = d) := Lib.hid (by rw [oneD, if_neg h])
    go_enter Try.func11, Try.ntmps11
    go_wp2_with fail
    (try simp only [Exit.inBlock, Exit.then])
    refine bodyPost_ret (v := .agg #[.int .i64 n, .string d]) ?_ rfl ⟨by rw [HV.out], (?_ : Q w _)⟩
    · simp [results, Try.results11, go_sem]
    · exact ((Q.refl w).alloc _).alloc _
end Go.Proofs.Ytlahccmlnbdekaa
