/-
  Contracts of Parse, and of the document's Parse.
-/
import Derived.Test.YtmekgpnppcponaaSPlain
import Derived.Laws.ResultCell
namespace Go.Proofs.Ytmekgpnppcponaa
open Go.ChangeShapes Go.WideShapes Go.ChangeAt Go.RowKit
set_option linter.unusedVariables false

/-- What Parse tells. -/
def parV : Option (Nat × Nat × Bool × Bool) → Value
  | some (f, t, o, b) => .tuple #[spn f t o b, .int .i64 0]
  | none => .tuple #[spn 0 0 false false, .int .i64 2]

/-- Cells that were there ahead of a call. -/
theorem cells_on {w1 w2 : World} {g : Nat} {f t f' t' : Int} {o b o' b' : Bool} (c : Cells w1 g f t o b) (hg : g < w1.heap.size) (q : Q (w1.alloc (.cells #[.int .i64 f', .int .i64 t', .bool o', .bool b'] 23)) w2) : Cells w2 g f t o b := by
  obtain ⟨c0, c1, c2, c3⟩ := c
  have e : ∀ k, w2.cell? ⟨g, k, none⟩ = w1.cell? ⟨g, k, none⟩ := fun k => (Below.cell q (p := ⟨g, k, none⟩) (by simp; omega)).trans (Below.cell ((Q.refl w1).alloc _) hg)
  exact ⟨(e 0).trans c0, (e 1).trans c1, (e 2).trans c2, (e 3).trans c3⟩

/-- Cells that may be written. -/
def Free (w : World) (g : Nat) : Prop :=
  w.frozen? ⟨g, 0, none⟩ = false ∧ w.frozen? ⟨g, 1, none⟩ = false ∧ w.frozen? ⟨g, 2, none⟩ = false ∧ w.frozen? ⟨g, 3, none⟩ = false
theorem free_of {w w1 : World} {f t : Int} {o b : Bool} (q : Q (w.alloc (.cells #[.int .i64 f, .int .i64 t, .bool o, .bool b] 23)) w1) : Free w1 w.heap.size := by
  refine ⟨?_, ?_, ?_, ?_⟩ <;> exact (Below.frozen q (by simp)).trans (by simp [go_sem])
theorem free_on {w1 w2 : World} {g : Nat} {f' t' : Int} {o' b' : Bool} (c : Free w1 g) (hg : g < w1.heap.size) (q : Q (w1.alloc (.cells #[.int .i64 f', .int .i64 t', .bool o', .bool b'] 23)) w2) : Free w2 g := by
  obtain ⟨c0, c1, c2, c3⟩ := c
  have e : ∀ k, w2.frozen? ⟨g, k, none⟩ = w1.frozen? ⟨g, k, none⟩ := fun k => (Below.frozen q (p := ⟨g, k, none⟩) (by simp; omega)).trans (Below.frozen ((Q.refl w1).alloc _) hg)
  exact ⟨(e 0).trans c0, (e 1).trans c1, (e 2).trans c2, (e 3).trans c3⟩

theorem psd2_of {a c : List UInt8} {f t : Nat} {o b : Bool} (h1 : opt a = some f) (h2 : opt c = some t) (h3 : c.isEmpty = o) (h4 : a.isEmpty = b) : psd2 a c = if mayP f t o b then some (f, t, o, b) else none := by
  unfold psd2; rw [h1, h2, h3, h4]
theorem Q.set {a b : World} (h : Q a b) {g k : Nat} (hg : a.heap.size ≤ g) (u : Value) : Q a (b.setCell ⟨g, k, none⟩ u) := Below.setCell h hg u
theorem psd2_may {a c : List UInt8} {f t : Nat} {o b : Bool} (hm : mayP f t o b = true) (h1 : opt a = some f) (h2 : opt c = some t) (h3 : c.isEmpty = o) (h4 : a.isEmpty = b) : psd2 a c = some (f, t, o, b) := by
  rw [psd2_of h1 h2 h3 h4, if_pos hm]
theorem psd2_not {a c : List UInt8} {f t : Nat} {o b : Bool} (hm : mayP f t o b = false) (h1 : opt a = some f) (h2 : opt c = some t) (h3 : c.isEmpty = o) (h4 : a.isEmpty = b) : psd2 a c = none := by
  rw [psd2_of h1 h2 h3 h4, if_neg (by rw [hm]; simp)]
theorem psd2_n1 {a c : List UInt8} (h : opt a = none) : psd2 a c = none := by unfold psd2; rw [h]
theorem psd2_n2 {a c : List UInt8} (h : opt c = none) : psd2 a c = none := by unfold psd2; rw [h]; cases opt a <;> rfl
theorem opt_nil : opt [] = some 0 := rfl
theorem opt_ne {l : List UInt8} (h : l.isEmpty = false) : opt l = num l := by
  rw [opt, if_neg]; rintro rfl; simp at h
theorem opt_e {l : List UInt8} (h : l.isEmpty = true) : opt l = some 0 := by rw [opt, if_pos (List.isEmpty_iff.1 h)]
theorem bl_emp {a : ByteArray} (h : a.size = 0) : (bl a).isEmpty = true := by rw [← toList_bl]; exact emp_yes h
theorem bl_nem {a : ByteArray} (h : 0 < a.size) : (bl a).isEmpty = false := by rw [← toList_bl]; exact emp_no h
theorem eqe_yes {a : ByteArray} (h : a.size = 0) : (a.toList == []) = true := by rw [(nil_text a).2 h]; rfl
theorem eqe_no {a : ByteArray} (h : 0 < a.size) : (a.toList == []) = false := by
  have : ¬ a.toList = [] := fun e => by have := (nil_text a).1 e; omega
  simpa using this
theorem may_ob (f t : Int) : mayP f t true true = false := rfl

set_option maxHeartbeats 2000000 in
theorem parse_any (s : ByteArray) (w : World) (hs : s.size ≤ 5000) :
    Calls Try.prog 12 #[.string s] w fun e w' => e = .returned (parV (psd (bl s))) ∧ Q w w' := by
  rcases dash_or s with hn | ⟨i, hi, h0, hn⟩
  · have HV := Lib.hid (psd_none s hn)
    have C := Lib.hid (fun w => parted_no s w hs hn)
    clear hn
    go_enter Try.func12, Try.ntmps12
    go_wp2_with fail
    refine (C.out _).mono ?_
    rintro e w1 ⟨rfl, rfl⟩
    go_wp2
    (try simp only [Exit.inBlock, Exit.then])
    refine bodyPost_ret (v := .tuple #[.agg #[.int .i64 0, .int .i64 0, .bool false, .bool false], .int .i64 2]) ?_ rfl ?_
    · rw [results_cell_tmp rfl]
      go_simp
    · exact ⟨by rw [HV.out]; rfl, ((Q.refl _).alloc _).alloc _⟩
  · have HV := Lib.hid (psd_dash s hi h0 hn)
    have C := Lib.hid (fun w => parted_yes s w hs hi h0 hn)
    clear hn h0
    obtain ⟨a, ha⟩ : ∃ a, a = s.extract 0 i := ⟨_, rfl⟩
    obtain ⟨c, hc⟩ : ∃ c, c = s.extract (i + 1) s.size := ⟨_, rfl⟩
    have za : a.size ≤ 5000 := by rw [ha, size_cut _ (by omega)]; omega
    have zc : c.size ≤ 5000 := by rw [hc, size_cut _ (by omega)]; omega
    rw [← ha, ← hc] at HV C
    clear ha hc hi
    have N1 := Lib.hid (fun w => number_any a w za)
    have N2 := Lib.hid (fun w => number_any c w zc)
    by_cases ea : a.size = 0
    · have E1 := Lib.hid (bl_emp ea)
      have f1 := eqe_yes ea
      clear ea
      by_cases ec : c.size = 0
      · have E2 := Lib.hid (bl_emp ec)
        have f2 := eqe_yes ec
        clear ec
        have M := Lib.hid (fun w => may_any 0 0 true true w)
        have hm : mayP 0 0 true true = false := rfl
        have HP := Lib.hid (psd2_not (f := 0) (t := 0) hm (opt_e E1.out) (opt_e E2.out) E2.out E1.out)
        rw [hm] at M
        rw [spn] at M
        clear hm
        clear E1 E2
        go_enter Try.func12, Try.ntmps12
        go_wp2_with fail
        refine (C.out _).mono ?_
        rintro e w1 ⟨rfl, q1⟩
        have hs1 : w.heap.size < w1.heap.size := by have := q1.size; simp at this; omega
        go_wp2_with fail
        refine (M.out _).mono ?_
        rintro e w2 ⟨rfl, q2⟩
        obtain ⟨c0, c1, c2, c3⟩ := cells_of q2
        obtain ⟨d0, d1, d2, d3⟩ := cells_on (w1 := w1) (w2 := w2) (cells_of q1) hs1 q2
        obtain ⟨k0, k1, k2, k3⟩ := free_on (w1 := w1) (w2 := w2) (free_of q1) hs1 q2
        have HQ := Lib.hid (((((Q.refl w).alloc _).trans q1).alloc _).trans q2)
        go_wp2
        (try simp only [Exit.inBlock, Exit.then])
        refine bodyPost_ret (v := .tuple #[.agg #[.int .i64 0, .int .i64 0, .bool false, .bool false], .int .i64 2]) ?_ rfl ?_
        · rw [results_cell_tmp rfl]
          go_simp
        · refine ⟨by rw [HV.out, HP.out]; rfl, ?_⟩
          exact Q.set (Q.set (Q.set (Q.set HQ.out (Nat.le_refl _) _) (Nat.le_refl _) _) (Nat.le_refl _) _) (Nat.le_refl _) _
      · have hc0 : 0 < c.size := by omega
        have E2 := Lib.hid (bl_nem hc0)
        have f2 := eqe_no hc0
        have g2 := emp_no hc0
        clear ec
        cases n2 : num (bl c) with
        | none =>
          rw [n2] at N2
          simp only [numV] at N2
          have O2 : Hid (opt (bl c) = none) := Lib.hid ((opt_ne E2.out).trans n2)
          clear n2
          have HP := Lib.hid (psd2_n2 (a := bl a) O2.out)
          clear E1 E2
          go_enter Try.func12, Try.ntmps12
          go_wp2_with fail
          refine (C.out _).mono ?_
          rintro e w1 ⟨rfl, q1⟩
          go_wp2_with fail
          refine (N2.out _).mono ?_
          rintro e w2 ⟨rfl, rfl⟩
          have hs1 : w.heap.size < w1.heap.size := by have := q1.size; simp at this; omega
          obtain ⟨d0, d1, d2, d3⟩ := cells_of q1
          obtain ⟨k0, k1, k2, k3⟩ := free_of q1
          have HQ := Lib.hid (((Q.refl w).alloc _).trans q1)
          go_wp2
          (try simp only [Exit.inBlock, Exit.then])
          refine bodyPost_ret (v := .tuple #[.agg #[.int .i64 0, .int .i64 0, .bool false, .bool false], .int .i64 2]) ?_ rfl ?_
          · rw [results_cell_tmp rfl]
            go_simp
          · refine ⟨by rw [HV.out, HP.out]; rfl, ?_⟩
            exact Q.alloc (Q.set (Q.set (Q.set (Q.set HQ.out (Nat.le_refl _) _) (Nat.le_refl _) _) (Nat.le_refl _) _) (Nat.le_refl _) _) _
        | some y =>
          rw [n2] at N2
          simp only [numV] at N2
          have b2 := (num_iff.1 n2).1
          have O2 : Hid (opt (bl c) = some y) := Lib.hid ((opt_ne E2.out).trans n2)
          clear n2
          have M := Lib.hid (fun w => may_any 0 y false true w)
          have hm : mayP 0 y false true = true := by simp [mayP, inP]; omega
          have HP := Lib.hid (psd2_may (f := 0) (t := y) hm (opt_e E1.out) O2.out E2.out E1.out)
          rw [hm] at M
          rw [spn] at M
          clear hm
          clear E1 E2
          go_enter Try.func12, Try.ntmps12
          go_wp2_with fail
          refine (C.out _).mono ?_
          rintro e w1 ⟨rfl, q1⟩
          go_wp2_with fail
          refine (N2.out _).mono ?_
          rintro e w2 ⟨rfl, rfl⟩
          have hs1 : w.heap.size < w1.heap.size := by have := q1.size; simp at this; omega
          go_wp2_with fail
          refine (M.out _).mono ?_
          rintro e w2 ⟨rfl, q2⟩
          obtain ⟨c0, c1, c2, c3⟩ := cells_of q2
          obtain ⟨d0, d1, d2, d3⟩ := cells_on (w1 := w1) (w2 := w2) (cells_of q1) hs1 q2
          obtain ⟨k0, k1, k2, k3⟩ := free_on (w1 := w1) (w2 := w2) (free_of q1) hs1 q2
          have HQ := Lib.hid (((((Q.refl w).alloc _).trans q1).alloc _).trans q2)
          go_wp2
          (try simp only [Exit.inBlock, Exit.then])
          refine bodyPost_ret (v := .tuple #[.agg #[.int .i64 0, .int .i64 y, .bool false, .bool true], .int .i64 0]) ?_ rfl ?_
          · rw [results_cell_tmp rfl]
            go_simp
          · refine ⟨by rw [HV.out, HP.out]; rfl, ?_⟩
            exact Q.set (Q.set (Q.set (Q.set HQ.out (Nat.le_refl _) _) (Nat.le_refl _) _) (Nat.le_refl _) _) (Nat.le_refl _) _
    · have ha0 : 0 < a.size := by omega
      have E1 := Lib.hid (bl_nem ha0)
      have f1 := eqe_no ha0
      have g1 := emp_no ha0
      clear ea
      cases n1 : num (bl a) with
      | none =>
        rw [n1] at N1
        simp only [numV] at N1
        have O1 : Hid (opt (bl a) = none) := Lib.hid ((opt_ne E1.out).trans n1)
        clear n1
        by_cases ec : c.size = 0
        · have E2 := Lib.hid (bl_emp ec)
          have f2 := eqe_yes ec
          clear ec
          have HP := Lib.hid (psd2_n1 (c := bl c) O1.out)
          clear E1 E2
          go_enter Try.func12, Try.ntmps12
          go_wp2_with fail
          refine (C.out _).mono ?_
          rintro e w1 ⟨rfl, q1⟩
          go_wp2_with fail
          refine (N1.out _).mono ?_
          rintro e w2 ⟨rfl, rfl⟩
          have hs1 : w.heap.size < w1.heap.size := by have := q1.size; simp at this; omega
          obtain ⟨d0, d1, d2, d3⟩ := cells_of q1
          obtain ⟨k0, k1, k2, k3⟩ := free_of q1
          have HQ := Lib.hid (((Q.refl w).alloc _).trans q1)
          go_wp2
          (try simp only [Exit.inBlock, Exit.then])
          refine bodyPost_ret (v := .tuple #[.agg #[.int .i64 0, .int .i64 0, .bool false, .bool false], .int .i64 2]) ?_ rfl ?_
          · rw [results_cell_tmp rfl]
            go_simp
          · refine ⟨by rw [HV.out, HP.out]; rfl, ?_⟩
            exact Q.alloc (Q.set (Q.set (Q.set (Q.set HQ.out (Nat.le_refl _) _) (Nat.le_refl _) _) (Nat.le_refl _) _) (Nat.le_refl _) _) _
        · have hc0 : 0 < c.size := by omega
          have E2 := Lib.hid (bl_nem hc0)
          have f2 := eqe_no hc0
          clear ec
          have HP := Lib.hid (psd2_n1 (c := bl c) O1.out)
          clear E1 E2
          go_enter Try.func12, Try.ntmps12
          go_wp2_with fail
          refine (C.out _).mono ?_
          rintro e w1 ⟨rfl, q1⟩
          go_wp2_with fail
          refine (N1.out _).mono ?_
          rintro e w2 ⟨rfl, rfl⟩
          have hs1 : w.heap.size < w1.heap.size := by have := q1.size; simp at this; omega
          obtain ⟨d0, d1, d2, d3⟩ := cells_of q1
          obtain ⟨k0, k1, k2, k3⟩ := free_of q1
          have HQ := Lib.hid (((Q.refl w).alloc _).trans q1)
          go_wp2
          (try simp only [Exit.inBlock, Exit.then])
          refine bodyPost_ret (v := .tuple #[.agg #[.int .i64 0, .int .i64 0, .bool false, .bool false], .int .i64 2]) ?_ rfl ?_
          · rw [results_cell_tmp rfl]
            go_simp
          · refine ⟨by rw [HV.out, HP.out]; rfl, ?_⟩
            exact Q.alloc (Q.set (Q.set (Q.set (Q.set HQ.out (Nat.le_refl _) _) (Nat.le_refl _) _) (Nat.le_refl _) _) (Nat.le_refl _) _) _
      | some x =>
        rw [n1] at N1
        simp only [numV] at N1
        have b1 := (num_iff.1 n1).1
        have O1 : Hid (opt (bl a) = some x) := Lib.hid ((opt_ne E1.out).trans n1)
        clear n1
        by_cases ec : c.size = 0
        · have E2 := Lib.hid (bl_emp ec)
          have f2 := eqe_yes ec
          clear ec
          have M := Lib.hid (fun w => may_any x 0 true false w)
          have hm : mayP x 0 true false = true := by simp [mayP, inP]; omega
          have HP := Lib.hid (psd2_may (f := x) (t := 0) hm O1.out (opt_e E2.out) E2.out E1.out)
          rw [hm] at M
          rw [spn] at M
          clear hm
          clear E1 E2
          go_enter Try.func12, Try.ntmps12
          go_wp2_with fail
          refine (C.out _).mono ?_
          rintro e w1 ⟨rfl, q1⟩
          go_wp2_with fail
          refine (N1.out _).mono ?_
          rintro e w2 ⟨rfl, rfl⟩
          have hs1 : w.heap.size < w1.heap.size := by have := q1.size; simp at this; omega
          go_wp2_with fail
          refine (M.out _).mono ?_
          rintro e w2 ⟨rfl, q2⟩
          obtain ⟨c0, c1, c2, c3⟩ := cells_of q2
          obtain ⟨d0, d1, d2, d3⟩ := cells_on (w1 := w1) (w2 := w2) (cells_of q1) hs1 q2
          obtain ⟨k0, k1, k2, k3⟩ := free_on (w1 := w1) (w2 := w2) (free_of q1) hs1 q2
          have HQ := Lib.hid (((((Q.refl w).alloc _).trans q1).alloc _).trans q2)
          go_wp2
          (try simp only [Exit.inBlock, Exit.then])
          refine bodyPost_ret (v := .tuple #[.agg #[.int .i64 x, .int .i64 0, .bool true, .bool false], .int .i64 0]) ?_ rfl ?_
          · rw [results_cell_tmp rfl]
            go_simp
          · refine ⟨by rw [HV.out, HP.out]; rfl, ?_⟩
            exact Q.set (Q.set (Q.set (Q.set HQ.out (Nat.le_refl _) _) (Nat.le_refl _) _) (Nat.le_refl _) _) (Nat.le_refl _) _
        · have hc0 : 0 < c.size := by omega
          have E2 := Lib.hid (bl_nem hc0)
          have f2 := eqe_no hc0
          have g2 := emp_no hc0
          clear ec
          cases n2 : num (bl c) with
          | none =>
            rw [n2] at N2
            simp only [numV] at N2
            have O2 : Hid (opt (bl c) = none) := Lib.hid ((opt_ne E2.out).trans n2)
            clear n2
            have HP := Lib.hid (psd2_n2 (a := bl a) O2.out)
            clear E1 E2
            go_enter Try.func12, Try.ntmps12
            go_wp2_with fail
            refine (C.out _).mono ?_
            rintro e w1 ⟨rfl, q1⟩
            go_wp2_with fail
            refine (N1.out _).mono ?_
            rintro e w2 ⟨rfl, rfl⟩
            go_wp2_with fail
            refine (N2.out _).mono ?_
            rintro e w2 ⟨rfl, rfl⟩
            have hs1 : w.heap.size < w1.heap.size := by have := q1.size; simp at this; omega
            obtain ⟨d0, d1, d2, d3⟩ := cells_of q1
            obtain ⟨k0, k1, k2, k3⟩ := free_of q1
            have HQ := Lib.hid (((Q.refl w).alloc _).trans q1)
            go_wp2
            (try simp only [Exit.inBlock, Exit.then])
            refine bodyPost_ret (v := .tuple #[.agg #[.int .i64 0, .int .i64 0, .bool false, .bool false], .int .i64 2]) ?_ rfl ?_
            · rw [results_cell_tmp rfl]
              go_simp
            · refine ⟨by rw [HV.out, HP.out]; rfl, ?_⟩
              exact Q.alloc (Q.set (Q.set (Q.set (Q.set HQ.out (Nat.le_refl _) _) (Nat.le_refl _) _) (Nat.le_refl _) _) (Nat.le_refl _) _) _
          | some y =>
            rw [n2] at N2
            simp only [numV] at N2
            have b2 := (num_iff.1 n2).1
            have O2 : Hid (opt (bl c) = some y) := Lib.hid ((opt_ne E2.out).trans n2)
            clear n2
            by_cases hxy : x ≤ y
            · skip
              have M := Lib.hid (fun w => may_any x y false false w)
              have hm : mayP x y false false = true := by simp [mayP, inP]; omega
              have HP := Lib.hid (psd2_may (f := x) (t := y) hm O1.out O2.out E2.out E1.out)
              rw [hm] at M
              rw [spn] at M
              clear hm
              clear E1 E2
              go_enter Try.func12, Try.ntmps12
              go_wp2_with fail
              refine (C.out _).mono ?_
              rintro e w1 ⟨rfl, q1⟩
              go_wp2_with fail
              refine (N1.out _).mono ?_
              rintro e w2 ⟨rfl, rfl⟩
              go_wp2_with fail
              refine (N2.out _).mono ?_
              rintro e w2 ⟨rfl, rfl⟩
              have hs1 : w.heap.size < w1.heap.size := by have := q1.size; simp at this; omega
              go_wp2_with fail
              refine (M.out _).mono ?_
              rintro e w2 ⟨rfl, q2⟩
              obtain ⟨c0, c1, c2, c3⟩ := cells_of q2
              obtain ⟨d0, d1, d2, d3⟩ := cells_on (w1 := w1) (w2 := w2) (cells_of q1) hs1 q2
              obtain ⟨k0, k1, k2, k3⟩ := free_on (w1 := w1) (w2 := w2) (free_of q1) hs1 q2
              have HQ := Lib.hid (((((Q.refl w).alloc _).trans q1).alloc _).trans q2)
              go_wp2
              (try simp only [Exit.inBlock, Exit.then])
              refine bodyPost_ret (v := .tuple #[.agg #[.int .i64 x, .int .i64 y, .bool false, .bool false], .int .i64 0]) ?_ rfl ?_
              · rw [results_cell_tmp rfl]
                go_simp
              · refine ⟨by rw [HV.out, HP.out]; rfl, ?_⟩
                exact Q.set (Q.set (Q.set (Q.set HQ.out (Nat.le_refl _) _) (Nat.le_refl _) _) (Nat.le_refl _) _) (Nat.le_refl _) _
            · skip
              have M := Lib.hid (fun w => may_any x y false false w)
              have hm : mayP x y false false = false := by simp [mayP, inP]; omega
              have HP := Lib.hid (psd2_not (f := x) (t := y) hm O1.out O2.out E2.out E1.out)
              rw [hm] at M
              rw [spn] at M
              clear hm
              clear E1 E2
              go_enter Try.func12, Try.ntmps12
              go_wp2_with fail
              refine (C.out _).mono ?_
              rintro e w1 ⟨rfl, q1⟩
              go_wp2_with fail
              refine (N1.out _).mono ?_
              rintro e w2 ⟨rfl, rfl⟩
              go_wp2_with fail
              refine (N2.out _).mono ?_
              rintro e w2 ⟨rfl, rfl⟩
              have hs1 : w.heap.size < w1.heap.size := by have := q1.size; simp at this; omega
              go_wp2_with fail
              refine (M.out _).mono ?_
              rintro e w2 ⟨rfl, q2⟩
              obtain ⟨c0, c1, c2, c3⟩ := cells_of q2
              obtain ⟨d0, d1, d2, d3⟩ := cells_on (w1 := w1) (w2 := w2) (cells_of q1) hs1 q2
              obtain ⟨k0, k1, k2, k3⟩ := free_on (w1 := w1) (w2 := w2) (free_of q1) hs1 q2
              have HQ := Lib.hid (((((Q.refl w).alloc _).trans q1).alloc _).trans q2)
              go_wp2
              (try simp only [Exit.inBlock, Exit.then])
              refine bodyPost_ret (v := .tuple #[.agg #[.int .i64 0, .int .i64 0, .bool false, .bool false], .int .i64 2]) ?_ rfl ?_
              · rw [results_cell_tmp rfl]
                go_simp
              · refine ⟨by rw [HV.out, HP.out]; rfl, ?_⟩
                exact Q.set (Q.set (Q.set (Q.set HQ.out (Nat.le_refl _) _) (Nat.le_refl _) _) (Nat.le_refl _) _) (Nat.le_refl _) _
end Go.Proofs.Ytmekgpnppcponaa
