/-
  Things and Keys, whatever is asked.
-/
import Derived.Test.YtipipjpdlblifaaGAwake
import Derived.Test.YtipipjpdlblifaaEBox
namespace Go.Proofs.Ytipipjpdlblifaa
open Go.ChangeShapes Go.WideShapes Go.ChangeAt Go.RowKit
set_option linter.unusedVariables false
set_option linter.unusedSimpArgs false

def noPg : Pg := ⟨[], [], false, ⟨#[]⟩⟩
set_option maxHeartbeats 2000000 in
theorem keys_no (l : List Ent) (v : Value) (p d after : ByteArray) (m : Int) (w : World) (R : Bool) (hR : chkI l R) (hs : Small l) (hp : p.size ≤ 1000) (hd : d.size ≤ 1000) (ha : after.size ≤ 1000) (ht : Ents w w.heap.size v l) (hno : (R && hasO 0 60 ko p && hasO 0 1 ko d && pgO after m) = false) :
    Calls Try.prog 11 #[v, .string p, .string d, .string after, .int .i64 m] w fun e w' => e = .returned (.tuple #[.agg #[.slice none 0 0, .slice none 0 0, .bool false, .string ⟨#[]⟩], .int .i64 1]) ∧ Q w w' := by
  have qa : Q w (((w.alloc (.cells #[.string after] 9)).alloc (.cells #[.int .i64 m] 3)).alloc (.cells #[.slice none 0 0, .slice none 0 0, .bool false, .string ⟨#[]⟩] 29)) := (((Q.refl w).alloc _).alloc _).alloc _
  have C := Lib.hid fun b (q : Q w b) => mayList_any l v p b R hR hs hp (ht.on q)
  have D := Lib.hid fun b => delim_any d b hd
  have G := Lib.hid fun b => mayPage_any after m b ha
  have ba := ((Bx.new w 9 #[.string after]).alloc (.cells #[.int .i64 m] 3)).alloc (.cells #[.slice none 0 0, .slice none 0 0, .bool false, .string ⟨#[]⟩] 29)
  have bm := (Bx.new (w.alloc (.cells #[.string after] 9)) 3 #[.int .i64 m]).alloc (.cells #[.slice none 0 0, .slice none 0 0, .bool false, .string ⟨#[]⟩] 29)
  have br := Bx.new ((w.alloc (.cells #[.string after] 9)).alloc (.cells #[.int .i64 m] 3)) 29 #[.slice none 0 0, .slice none 0 0, .bool false, .string ⟨#[]⟩]
  simp only [World.size_alloc] at bm br
  clear hR ht
  cases h : R && hasO 0 60 ko p with
  | false =>
    rw [h] at C
    go_enter Try.func11, Try.ntmps11
    go_wp2_with fail
    refine (C.out _ qa).mono ?_
    rintro e w1 ⟨rfl, q⟩
    have br1 := br.on q
    have z0 := br1.cell 0
    have z1 := br1.cell 1
    have z2 := br1.cell 2
    have z3 := br1.cell 3
    have f0 := br1.frozen 0
    have f1 := br1.frozen 1
    have f2 := br1.frozen 2
    have f3 := br1.frozen 3
    simp only [List.getElem?_toArray, List.getElem?_cons_zero, List.getElem?_cons_succ] at z0 z1 z2 z3
    have qq := qa.trans q
    go_wp2
    (try simp only [Exit.inBlock, Exit.then])
    refine bodyPost_ret (v := .tuple #[.agg #[.slice none 0 0, .slice none 0 0, .bool false, .string ⟨#[]⟩], .int .i64 1]) ?_ rfl ?_
    · rw [results_cell_tmp rfl]
      go_simp
    · exact ⟨rfl, Q.set (Q.set (Q.set (Q.set qq (by omega) _) (by omega) _) (by omega) _) (by omega) _⟩
  | true =>
    rw [h] at C hno
    cases h2 : hasO 0 1 ko d with
    | false =>
      rw [h2] at D
      go_enter Try.func11, Try.ntmps11
      go_wp2_with fail
      refine (C.out _ qa).mono ?_
      rintro e w1 ⟨rfl, q1⟩
      go_wp2_with fail
      refine (D.out _).mono ?_
      rintro e w2 ⟨rfl, q2⟩
      have q := q1.trans q2
      have br1 := br.on q
      have z0 := br1.cell 0
      have z1 := br1.cell 1
      have z2 := br1.cell 2
      have z3 := br1.cell 3
      have f0 := br1.frozen 0
      have f1 := br1.frozen 1
      have f2 := br1.frozen 2
      have f3 := br1.frozen 3
      simp only [List.getElem?_toArray, List.getElem?_cons_zero, List.getElem?_cons_succ] at z0 z1 z2 z3
      have qq := qa.trans q
      go_wp2
      (try simp only [Exit.inBlock, Exit.then])
      refine bodyPost_ret (v := .tuple #[.agg #[.slice none 0 0, .slice none 0 0, .bool false, .string ⟨#[]⟩], .int .i64 1]) ?_ rfl ?_
      · rw [results_cell_tmp rfl]
        go_simp
      · exact ⟨rfl, Q.set (Q.set (Q.set (Q.set qq (by omega) _) (by omega) _) (by omega) _) (by omega) _⟩
    | true =>
      rw [h2] at D
      rw [show pgO after m = false by simpa [h2] using hno] at G
      go_enter Try.func11, Try.ntmps11
      go_wp2_with fail
      refine (C.out _ qa).mono ?_
      rintro e w1 ⟨rfl, q1⟩
      go_wp2_with fail
      refine (D.out _).mono ?_
      rintro e w2 ⟨rfl, q2⟩
      have x0 := (ba.on (q1.trans q2)).cell 0
      have x1 := (bm.on (q1.trans q2)).cell 0
      simp only [List.getElem?_toArray, List.getElem?_cons_zero, List.getElem?_cons_succ] at x0 x1
      go_wp2_with fail
      refine (G.out _).mono ?_
      rintro e w3 ⟨rfl, q3⟩
      have q := (q1.trans q2).trans q3
      have br1 := br.on q
      have z0 := br1.cell 0
      have z1 := br1.cell 1
      have z2 := br1.cell 2
      have z3 := br1.cell 3
      have f0 := br1.frozen 0
      have f1 := br1.frozen 1
      have f2 := br1.frozen 2
      have f3 := br1.frozen 3
      simp only [List.getElem?_toArray, List.getElem?_cons_zero, List.getElem?_cons_succ] at z0 z1 z2 z3
      have qq := qa.trans q
      go_wp2
      (try simp only [Exit.inBlock, Exit.then])
      refine bodyPost_ret (v := .tuple #[.agg #[.slice none 0 0, .slice none 0 0, .bool false, .string ⟨#[]⟩], .int .i64 1]) ?_ rfl ?_
      · rw [results_cell_tmp rfl]
        go_simp
      · exact ⟨rfl, Q.set (Q.set (Q.set (Q.set qq (by omega) _) (by omega) _) (by omega) _) (by omega) _⟩

theorem things_whole (l : List Ent) (p d : ByteArray) (R : Bool) (hR : chkI l R) (hs : Small l) (hp : p.size ≤ 1000) (hd : d.size ≤ 1000) :
    ∃ N k, (((R && hasO 0 60 ko p && hasO 0 1 ko d) = true ∧ okI l ∧ N = (thgs p d l).map (·.1) ∧ k = 0) ∨ ((R && hasO 0 60 ko p && hasO 0 1 ko d) = false ∧ N = [] ∧ k = 1)) ∧
      Hid (∀ b v, Ents b b.heap.size v l → Calls Try.prog 12 #[v, .string p, .string d] b fun e w' => ∃ A c, e = .returned (.tuple #[.slice A N.length c, .int .i64 (k : Nat)]) ∧ Txts w' w'.heap.size (.slice A N.length c) N ∧ Q b w') := by
  cases h : R && hasO 0 60 ko p && hasO 0 1 ko d with
  | false =>
    refine ⟨[], 1, .inr ⟨rfl, rfl, rfl⟩, Lib.hid fun b v ht => ?_⟩
    refine (things_no l v p d b R hR hs hp hd ht h).mono ?_
    rintro e w' ⟨rfl, q⟩
    exact ⟨none, 0, rfl, Txts.nil _ _, q⟩
  | true =>
    simp only [Bool.and_eq_true] at h
    have hI : okI l := by rcases hR with ⟨-, h0⟩ | ⟨h0, -⟩; exact h0; rw [h0] at h; simp at h
    exact ⟨_, 0, .inl ⟨rfl, hI, rfl, rfl⟩, things_hid rfl hI hs h.1.2 h.2⟩
theorem keys_whole (l : List Ent) (p d after : ByteArray) (m : Int) (R : Bool) (hR : chkI l R) (hs : Small l) (hp : p.size ≤ 1000) (hd : d.size ≤ 1000) (ha : after.size ≤ 1000) :
    ∃ P k, (((R && hasO 0 60 ko p && hasO 0 1 ko d && pgO after m) = true ∧ okI l ∧ P = pageO (thgs p d l) after m.toNat ∧ k = 0) ∨ ((R && hasO 0 60 ko p && hasO 0 1 ko d && pgO after m) = false ∧ P = noPg ∧ k = 1)) ∧
      Hid (∀ b v, Ents b b.heap.size v l → Calls Try.prog 11 #[v, .string p, .string d, .string after, .int .i64 m] b (KeysP b P k)) := by
  cases h : R && hasO 0 60 ko p && hasO 0 1 ko d && pgO after m with
  | false =>
    refine ⟨noPg, 1, .inr ⟨rfl, rfl, rfl⟩, Lib.hid fun b v ht => ?_⟩
    refine (keys_no l v p d after m b R hR hs hp hd ha ht h).mono ?_
    rintro e w' ⟨rfl, q⟩
    exact ⟨none, 0, none, 0, rfl, Txts.nil _ _, Txts.nil _ _, q⟩
  | true =>
    simp only [Bool.and_eq_true] at h
    have hI : okI l := by rcases hR with ⟨-, h0⟩ | ⟨h0, -⟩; exact h0; rw [h0] at h; simp at h
    have hm : 0 ≤ m := by have := h.2; unfold pgO at this; simp only [Bool.and_eq_true, decide_eq_true_eq] at this; omega
    obtain ⟨n, rfl⟩ : ∃ n : Nat, m = n := ⟨m.toNat, by omega⟩
    exact ⟨_, 0, .inl ⟨rfl, hI, by rw [Int.toNat_natCast], rfl⟩, keys_hid rfl hI hs h.1.1.2 h.1.2 h.2 ha⟩
end Go.Proofs.Ytipipjpdlblifaa
