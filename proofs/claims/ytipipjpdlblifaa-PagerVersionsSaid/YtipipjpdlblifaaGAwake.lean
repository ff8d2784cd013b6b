/-
  The chapter's examples.
-/
import Derived.Test.YtipipjpdlblifaaGKeys
import Derived.Test.YtipipjpdlblifaaGSame
import Derived.Test.YtipipjpdlblifaaEAwake
namespace Go.Proofs.Ytipipjpdlblifaa
open Go.ChangeShapes Go.WideShapes Go.ChangeAt Go.RowKit
set_option linter.unusedVariables false
set_option linter.unusedSimpArgs false

def u1 : Ver := ⟨1, ⟨#[]⟩, false, 0⟩
def tA : ByteArray := ⟨#[97]⟩
def tAB : ByteArray := ⟨#[97, 47, 98]⟩
def tAC : ByteArray := ⟨#[97, 47, 99]⟩
def tB : ByteArray := ⟨#[98]⟩
def tS : ByteArray := ⟨#[47]⟩
def tAS : ByteArray := ⟨#[97, 47]⟩
def fourL : List Ent := [⟨tA, [u1]⟩, ⟨tAB, [u1]⟩, ⟨tAC, [u1]⟩, ⟨tB, [u1]⟩]
theorem u1_okV : ∀ x ∈ [u1], okV x := by
  intro x hx
  obtain rfl : x = u1 := by simpa using hx
  exact ⟨by decide, by decide +kernel, by decide, by decide⟩
theorem u1_okP : okP [u1] := by
  refine ⟨by simp, fun i => ?_⟩
  rcases Nat.eq_zero_or_pos i with rfl | h
  · refine ⟨fun _ => ?_, fun j hj => by omega, fun k hi hk => by omega⟩
    show mayV u1 = true
    decide +kernel
  · exact step_end (by simp; omega)
theorem fourL_okI : okI fourL := by
  refine okI_iff.2 ⟨by simp [fourL], ?_, ?_⟩
  · unfold Rise fourL
    simp only [List.pairwise_cons, List.mem_cons, List.not_mem_nil, or_false, forall_eq_or_imp, forall_eq, false_imp_iff, implies_true, List.Pairwise.nil, and_true]
    refine ⟨⟨?_, ?_, ?_⟩, ⟨?_, ?_⟩, ?_⟩ <;> decide +kernel
  · intro e he
    simp only [fourL, List.mem_cons, List.not_mem_nil, or_false] at he
    rcases he with rfl | rfl | rfl | rfl <;> exact ⟨by decide +kernel, by simp, u1_okP⟩
theorem fourL_tiny : ∀ e ∈ fourL, Tiny e := by
  intro e he
  simp only [fourL, List.mem_cons, List.not_mem_nil, or_false] at he
  have hu : ∀ x ∈ [u1], x.data.size ≤ 2001 := by intro x hx; obtain rfl : x = u1 := (by simpa using hx); decide +kernel
  rcases he with rfl | rfl | rfl | rfl <;> exact ⟨by decide +kernel, by simp, hu⟩
theorem fourL_small : Small fourL := tiny_small (by simp [fourL]) fourL_tiny
theorem four_t1 : thgs ⟨#[]⟩ tS fourL = [(tA, false), (tAS, true), (tB, false)] := by kernel_rfl
theorem four_t2 : thgs tAS tS fourL = [(tAB, false), (tAC, false)] := by kernel_rfl
theorem four_p : pageO (thgs ⟨#[]⟩ tS fourL) tA 1 = ⟨[], [tAS], true, tAS⟩ := by kernel_rfl
theorem u1_vers (w : World) : Vers (w.alloc (.cells #[.int .u64 1, .string ⟨#[]⟩, .bool false, .int .i64 0] 63)) (w.heap.size + 1) (.slice (some ⟨w.heap.size, 0, none⟩) 1 1) [u1] := by
  refine ⟨_, _, rfl, Nat.le_refl _, (by simp), u1_okV, fun k hk => ?_⟩
  have k0 : k = 0 := by simpa using hk
  subst k0
  refine ⟨_, rfl, by simp, ?_, ?_, ?_, ?_⟩ <;> simp [Addr.add, u1]
set_option maxHeartbeats 2000000 in
theorem four_any (w : World) : Calls Try.prog 33 #[] w fun e w' => ∃ v', e = .returned v' ∧ Ents w' w'.heap.size v' fourL ∧ Q w w' := by
  have V := u1_vers w
  go_enter Try.func33, Try.ntmps33
  go_wp2
  go_ret
  refine ⟨_, rfl, ?_, ((Q.refl w).alloc _).alloc _⟩
  have V2 := V.below (w' := (w.alloc (.cells #[.int .u64 1, .string ⟨#[]⟩, .bool false, .int .i64 0] 63)).alloc (.cells #[.string ⟨#[97]⟩, .slice (some ⟨w.heap.size, 0, none⟩) 1 1, .string ⟨#[97, 47, 98]⟩, .slice (some ⟨w.heap.size, 0, none⟩) 1 1, .string ⟨#[97, 47, 99]⟩, .slice (some ⟨w.heap.size, 0, none⟩) 1 1, .string ⟨#[98]⟩, .slice (some ⟨w.heap.size, 0, none⟩) 1 1] 61)) ((Below.refl _ _).alloc (by simp) _)
  have V3 := V2.more (B' := ((w.alloc (.cells #[.int .u64 1, .string ⟨#[]⟩, .bool false, .int .i64 0] 63)).alloc (.cells #[.string ⟨#[97]⟩, .slice (some ⟨w.heap.size, 0, none⟩) 1 1, .string ⟨#[97, 47, 98]⟩, .slice (some ⟨w.heap.size, 0, none⟩) 1 1, .string ⟨#[97, 47, 99]⟩, .slice (some ⟨w.heap.size, 0, none⟩) 1 1, .string ⟨#[98]⟩, .slice (some ⟨w.heap.size, 0, none⟩) 1 1] 61)).heap.size) (by simp)
  have HB := Bx.new (w.alloc (.cells #[.int .u64 1, .string ⟨#[]⟩, .bool false, .int .i64 0] 63)) 61 #[.string ⟨#[97]⟩, .slice (some ⟨w.heap.size, 0, none⟩) 1 1, .string ⟨#[97, 47, 98]⟩, .slice (some ⟨w.heap.size, 0, none⟩) 1 1, .string ⟨#[97, 47, 99]⟩, .slice (some ⟨w.heap.size, 0, none⟩) 1 1, .string ⟨#[98]⟩, .slice (some ⟨w.heap.size, 0, none⟩) 1 1]
  refine ⟨_, _, rfl, Nat.le_refl _, (by simp), ?_, fun k hk => ⟨_, rfl, by simp, ?_⟩⟩
  · intro x hx
    have := fourL_tiny x hx
    exact ⟨by have := this.1; unfold maxLen; omega, by have := this.2.1; unfold maxLen; omega⟩
  · have hk4 : k < 4 := hk
    rw [World.size_alloc] at HB
    match k, hk4 with
    | 0, _ => exact ⟨HB.cell 0, _, HB.cell 1, V3⟩
    | 1, _ => exact ⟨HB.cell 2, _, HB.cell 3, V3⟩
    | 2, _ => exact ⟨HB.cell 4, _, HB.cell 5, V3⟩
    | 3, _ => exact ⟨HB.cell 6, _, HB.cell 7, V3⟩

theorem txts_new (w : World) (l : List ByteArray) (cs : Array Value) (h : cs = (l.map Value.string).toArray) (n : Nat) (hn : n = l.length) (G : Nat) (hG : G = w.heap.size) : Txts (w.alloc (.cells cs 9)) (w.alloc (.cells cs 9)).heap.size (.slice (some ⟨G, 0, none⟩) n n) l := by
  subst h hn hG
  refine ⟨_, _, rfl, fun k hk => ⟨_, rfl, by simp, ?_⟩⟩
  have := (Bx.new w 9 (l.map Value.string).toArray).cell k
  rw [show (⟨w.heap.size, 0, none⟩ : Addr).add k = ⟨w.heap.size, k, none⟩ by unfold Addr.add; split <;> simp_all]
  rw [this]
  simp [hk]
theorem same_yes (l : List ByteArray) (h : l.length ≤ 1000000) : Hid (∀ b u v, Txts b b.heap.size u l → Txts b b.heap.size v l → Calls Try.prog 15 #[u, v] b fun e w' => e = .returned (.bool true) ∧ Q b w') := Lib.hid (fun b u v hu hv => by
  have := same_any l l u v b h h hu hv
  simpa using this)
theorem things_hid {l : List Ent} {p d : ByteArray} {N : List ByteArray} (hN : (thgs p d l).map (·.1) = N) (hR : okI l) (hs : Small l) (hp : hasO 0 60 ko p = true) (hd : hasO 0 1 ko d = true) :
    Hid (∀ b v, Ents b b.heap.size v l → Calls Try.prog 12 #[v, .string p, .string d] b fun e w' => ∃ A c, e = .returned (.tuple #[.slice A N.length c, .int .i64 0]) ∧ Txts w' w'.heap.size (.slice A N.length c) N ∧ Q b w') := Lib.hid (fun b v ht => by
  refine (things_yes l v p d b hR hs hp hd ht).mono ?_
  rintro e w' ⟨v', rfl, tx, q⟩
  rw [hN] at tx
  have tx2 := tx
  obtain ⟨A, c, rfl, -⟩ := tx2
  exact ⟨A, c, rfl, tx, q⟩)
theorem keys_hid {l : List Ent} {p d after : ByteArray} {most : Nat} {P : Pg} (hP : pageO (thgs p d l) after most = P) (hR : okI l) (hs : Small l) (hp : hasO 0 60 ko p = true) (hd : hasO 0 1 ko d = true) (hm : pgO after (most : Nat) = true) (ha : after.size ≤ 1000) :
    Hid (∀ b v, Ents b b.heap.size v l → Calls Try.prog 11 #[v, .string p, .string d, .string after, .int .i64 (most : Nat)] b (KeysP b P 0)) := Lib.hid (fun b v ht => by
  have := keys_yes l v p d after most b hR hs hp hd hm ha ht
  rwa [hP] at this)
set_option maxHeartbeats 8000000 in
set_option maxRecDepth 100000 in
theorem awake_any7 (w : World) : Calls Try.prog 14 #[] w fun e w' => e = .returned (.bool true) ∧ Q w w' := by
  have C1 := things_hid (l := fourL) (p := ⟨#[]⟩) (d := tS) (N := [tA, tAS, tB]) (by rw [four_t1]; rfl) fourL_okI fourL_small (by decide +kernel) (by decide +kernel)
  have C2 := things_hid (l := fourL) (p := tAS) (d := tS) (N := [tAB, tAC]) (by rw [four_t2]; rfl) fourL_okI fourL_small (by decide +kernel) (by decide +kernel)
  have C3 := keys_hid (l := fourL) (p := ⟨#[]⟩) (d := tS) (after := tA) (most := 1) four_p fourL_okI fourL_small (by decide +kernel) (by decide +kernel) (by decide +kernel) (by decide +kernel)
  have FO := Lib.hid four_any
  have S1 := same_yes [tA, tAS, tB] (by simp)
  have S2 := same_yes [tAB, tAC] (by simp)
  have S3 := same_yes [tAS] (by simp)
  simp only [List.length_cons, List.length_nil, Nat.zero_add, Nat.reduceAdd] at C1 C2
  unfold tS at C1
  unfold tS tAS at C2
  unfold tS tA tAS KeysP at C3
  simp only [List.length_cons, List.length_nil, Nat.zero_add, Nat.reduceAdd] at C3
  go_enter Try.func14, Try.ntmps14
  go_wp2_with fail
  refine (FO.out _).mono ?_
  rintro e w1 ⟨v1, rfl, t1, q1⟩
  go_wp2_with fail
  refine (C1.out _ _ t1).mono ?_
  rintro e w2 ⟨A2, c2, rfl, t2, q2⟩
  have T2 := Lib.hid t2
  clear t1 t2
  go_wp2_with fail
  refine (FO.out _).mono ?_
  rintro e w3 ⟨v3, rfl, t3, q3⟩
  go_wp2_with fail
  refine (C2.out _ _ t3).mono ?_
  rintro e w4 ⟨A4, c4, rfl, t4, q4⟩
  have T4 := Lib.hid t4
  clear t3 t4
  go_wp2_with fail
  refine (FO.out _).mono ?_
  rintro e w5 ⟨v5, rfl, t5, q5⟩
  go_wp2_with fail
  refine (C3.out _ _ t5).mono ?_
  rintro e w6 ⟨A6, c6, A7, c7, rfl, t6, t7, q6⟩
  have T6 := Lib.hid t6
  have T7 := Lib.hid t7
  clear t5 t6 t7
  have q36 := ((q3.trans q4).trans q5).trans q6
  have q56 := q5.trans q6
  have bp := Bx.new w6 29 #[.slice A6 0 c6, .slice A7 1 c7, .bool true, .string ⟨#[97, 47]⟩]
  have qp : Q w6 (w6.alloc (.cells #[.slice A6 0 c6, .slice A7 1 c7, .bool true, .string ⟨#[97, 47]⟩] 29)) := (Q.refl w6).alloc _
  have qq := (q36.trans qp).alloc (.cells #[.string ⟨#[97]⟩, .string ⟨#[97, 47]⟩, .string ⟨#[98]⟩] 9)
  have N1 := Lib.hid (txts_new (w6.alloc (.cells #[.slice A6 0 c6, .slice A7 1 c7, .bool true, .string ⟨#[97, 47]⟩] 29)) [tA, tAS, tB] #[.string ⟨#[97]⟩, .string ⟨#[97, 47]⟩, .string ⟨#[98]⟩] rfl 3 rfl (w6.heap.size + 1) (by simp))
  go_wp2_with fail
  refine (S1.out _ _ _ (T2.out.on qq) N1.out).mono ?_
  rintro e w7 ⟨rfl, q7⟩
  have N2 := Lib.hid (txts_new w7 [tAB, tAC] #[.string ⟨#[97, 47, 98]⟩, .string ⟨#[97, 47, 99]⟩] rfl 2 rfl w7.heap.size rfl)
  have q67 : Q w6 w7 := (qp.alloc (.cells #[.string ⟨#[97]⟩, .string ⟨#[97, 47]⟩, .string ⟨#[98]⟩] 9)).trans q7
  have q47 := q56.trans q67
  have bp7 := (bp.alloc (.cells #[.string ⟨#[97]⟩, .string ⟨#[97, 47]⟩, .string ⟨#[98]⟩] 9)).on q7
  go_wp2_with fail
  refine (S2.out _ _ _ (T4.out.on (q47.alloc _)) N2.out).mono ?_
  rintro e w8 ⟨rfl, q8⟩
  have bp8 := (bp7.alloc (.cells #[.string ⟨#[97, 47, 98]⟩, .string ⟨#[97, 47, 99]⟩] 9)).on q8
  have q68 : Q w6 w8 := (q67.alloc (.cells #[.string ⟨#[97, 47, 98]⟩, .string ⟨#[97, 47, 99]⟩] 9)).trans q8
  have y0 := bp8.cell 0
  have y1 := bp8.cell 1
  have N3 := Lib.hid (txts_new w8 [tAS] #[.string ⟨#[97, 47]⟩] rfl 1 rfl w8.heap.size rfl)
  simp only [List.getElem?_toArray, List.getElem?_cons_zero, List.getElem?_cons_succ] at y0 y1
  go_wp2_with fail
  refine (S3.out _ _ _ (T7.out.on (q68.alloc _)) N3.out).mono ?_
  rintro e w9 ⟨rfl, q9⟩
  have bp9 := (bp8.alloc (.cells #[.string ⟨#[97, 47]⟩] 9)).on q9
  have x2 := bp9.cell 2
  have x3 := bp9.cell 3
  simp only [List.getElem?_toArray, List.getElem?_cons_zero, List.getElem?_cons_succ] at x2 x3
  have q := ((((q1.trans q2).trans q36).trans q68).alloc (.cells #[.string ⟨#[97, 47]⟩] 9)).trans q9
  clear T2 T4 T6 T7 N1 N2 N3 C1 C2 C3 FO S1 S2 S3 bp bp7 bp8 bp9 y0 y1
  go_wp2
  go_ret
  exact ⟨rfl, q⟩
end Go.Proofs.Ytipipjpdlblifaa
