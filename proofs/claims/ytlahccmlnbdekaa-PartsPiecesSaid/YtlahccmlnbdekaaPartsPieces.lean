/-
  Proved: whatever upload, pieces and number PartsPieces is called with, it returns true and leaves what it was given as it was. No condition.
-/
import Derived.Test.YtlahccmlnbdekaaUFewL
import Derived.Test.YtlahccmlnbdekaaUAwk
namespace Go.Proofs.Ytlahccmlnbdekaa.partsPieces
open Go.ChangeShapes Go.WideShapes Go.ChangeAt Go.RowKit
open Go.ChangeMaps (open_string shut_string)
set_option linter.unusedVariables false
set_option linter.unusedSimpArgs false

theorem addr0 (a : Addr) : a.add 0 = a := by cases a; simp [Addr.add]
/-- Parts lie elsewhere than in an upload's box, and stay where it is written. -/
theorem Prts.boxedU {w w' : World} {B : Nat} {v : Value} {l : List Prt} {A : Option Addr} {n c : Nat} {s : ByteArray} {i : Int} {t : TypeId} (h : Prts w w.heap.size v l)
    (hb : Bx w B t #[.int .u64 i, .string s, .slice A n c]) (hk : ∀ j, j ≠ B → w'.heap[j]? = w.heap[j]?) (hs : w.heap.size ≤ w'.heap.size) : Prts w' w'.heap.size v l := by
  obtain ⟨A', c', e, e0, ez, eo, f⟩ := h
  refine ⟨A', c', e, e0, ez, eo, fun k hk' => ?_⟩
  obtain ⟨a, e1, e2, e3⟩ := f k hk'
  refine ⟨a, e1, by omega, ?_⟩
  have hne : (a.add (k * 2)).block ≠ B := by
    obtain ⟨c0, c1⟩ := e3
    generalize a.add (k * 2) = p at c0 c1
    intro hp
    obtain ⟨b, o, x⟩ := p
    simp only at hp c1
    subst hp
    rw [hb.cell] at c1
    match o with
    | 0 =>
      cases x with
      | none => rw [hb.cell] at c0; simp at c0
      | some x => simp [World.cell?, show w.heap[b]? = _ from hb] at c0
    | 1 => simp at c1
    | o + 2 => simp at c1
  exact ⟨(World.cell?_of_block (hk _ hne)).trans e3.1, (World.cell?_of_block (a := ⟨(a.add (k * 2)).block, (a.add (k * 2)).off + 1, none⟩) (hk _ hne)).trans e3.2⟩
/-- An upload in a box of its own, as a slice. -/
theorem upls_box (w : World) (u : Upl) (v : Value) (h : okU u) (t : Prts w w.heap.size v u.L) : Upls (w.alloc (.cells #[.int .u64 (u.id : Nat), .string u.key, v] 40)) (w.alloc (.cells #[.int .u64 (u.id : Nat), .string u.key, v] 40)).heap.size (.slice (some ⟨w.heap.size, 0, none⟩) 1 1) [u] := by
  refine ⟨_, _, rfl, Nat.le_refl _, (by simp), fun x hx => ?_, fun k hk => ?_⟩
  · obtain rfl : x = u := by simpa using hx
    exact h
  · have k0 : k = 0 := by simpa using hk
    subst k0
    refine ⟨_, rfl, by simp, ?_, ?_, v, ?_, ?_⟩
    · simp [Addr.add]
    · simp [Addr.add]
    · simp [Addr.add]
    · exact t.on ((Q.refl w).alloc _)

theorem riseP_take {l : List Pce} (h : riseP l) (k : Nat) : riseP (l.take k) := fun i hi => by
  rw [List.length_take] at hi
  rw [List.getElem_take, List.getElem_take]
  exact h i (by omega)
theorem riseP_drop {l : List Pce} (h : riseP l) (k : Nat) : riseP (l.drop k) := fun i hi => by
  rw [List.length_drop] at hi
  rw [List.getElem_drop, List.getElem_drop]
  exact h (k + i) (by omega)
theorem any_sub {f : Pce → Bool} {a b : List Pce} (h : b.any f = false) (s : ∀ x ∈ a, x ∈ b) : a.any f = false := by
  rw [List.any_eq_false] at h ⊢
  exact fun x hx => h x (s x hx)
theorem catB_append (L : List Prt) (a b : List Pce) : catB L (a ++ b) = catB L a ++ catB L b := by rw [catB, List.flatMap_append]; rfl
/-- The whole of the first ones, and of the others. -/
theorem whole_cut {u : Upl} {l : List Pce} {s t : List UInt8} (h : WholeC u l s t 0) {k : Nat} (h1 : 1 ≤ k) (h2 : k < l.length) :
    ∃ a b ta tb, WholeC u (l.take k) a ta 0 ∧ WholeC u (l.drop k) b tb 0 ∧ s = a ++ b := by
  cases h with
  | yes hu hn hr hk ho hs =>
    have e : catB u.L l = catB u.L (l.take k) ++ catB u.L (l.drop k) := by rw [← catB_append, List.take_append_drop]
    have e2 := congrArg List.length e
    rw [List.length_append] at e2
    have l1 : (l.take k).length = k := by rw [List.length_take]; omega
    have l2 : (l.drop k).length = l.length - k := List.length_drop
    refine ⟨_, _, _, _, .yes hu (by omega) (riseP_take hr k) (any_sub hk fun x hx => List.mem_of_mem_take hx) (any_sub ho fun x hx => ?_) (by omega), .yes hu (by omega) (riseP_drop hr k) (any_sub hk fun x hx => List.mem_of_mem_drop hx) (any_sub ho fun x hx => ?_) (by omega), e⟩
    · rw [l1, List.take_take] at hx
      obtain ⟨i, hi, rfl⟩ := List.getElem_of_mem hx
      rw [List.length_take] at hi
      rw [List.getElem_take]
      have : (l.take (l.length - 1))[i]'(by rw [List.length_take]; omega) = l[i]'(by omega) := List.getElem_take
      rw [← this]; exact List.getElem_mem _
    · rw [l2] at hx
      obtain ⟨i, hi, rfl⟩ := List.getElem_of_mem hx
      rw [List.length_take, l2] at hi
      rw [List.getElem_take, List.getElem_drop]
      have : (l.take (l.length - 1))[k + i]'(by rw [List.length_take]; omega) = l[k + i]'(by omega) := List.getElem_take
      rw [← this]; exact List.getElem_mem _
theorem whole_size {u : Upl} {l : List Pce} {s t : List UInt8} {e : Nat} (h : WholeC u l s t e) : s.length ≤ 2000 := by
  cases h <;> first | (simp; done) | omega
theorem wholeC_err {u : Upl} {l : List Pce} {s t : List UInt8} {e : Nat} (h : WholeC u l s t e) (he : e ≠ 0) : s = [] := by
  cases h <;> first | rfl | exact absurd rfl he
set_option maxHeartbeats 8000000 in
set_option maxRecDepth 100000 in
theorem walk (q : Upl) (y : Value) (l : List Pce) (z : Value) (at' : Int) (w : World) (uq : okU q) (tq : Prts w w.heap.size y q.L) (t1 : Pces w w.heap.size z l) (z1 : l.length ≤ maxLen) (w2 : (Lit.int .u8 at').wf = true) :
    Calls Try.prog 9 #[upl q y, z, .int .u8 at'] w fun e w' => e = .returned (.bool true) ∧ Q w w' := by
  obtain ⟨A3, n3, c3, rfl⟩ : ∃ A n c, y = .slice A n c := by obtain ⟨A, c, e⟩ := tq.form; exact ⟨A, _, c, e⟩
  obtain ⟨id, qk, qL⟩ := q
  have q00 := (Q.refl w).alloc (.cells #[.int .u64 (id : Nat), .string qk, .slice A3 n3 c3] 40)
  have q01 := q00.alloc (.cells #[.int .u64 (id : Nat), .string qk, .slice A3 n3 c3] 40)
  have ONE : Upls ((w.alloc (.cells #[.int .u64 (id : Nat), .string qk, .slice A3 n3 c3] 40)).alloc (.cells #[.int .u64 (id : Nat), .string qk, .slice A3 n3 c3] 40)) ((w.alloc (.cells #[.int .u64 (id : Nat), .string qk, .slice A3 n3 c3] 40)).alloc (.cells #[.int .u64 (id : Nat), .string qk, .slice A3 n3 c3] 40)).heap.size (.slice (some ⟨w.heap.size + 1, 0, none⟩) 1 1) [⟨id, qk, qL⟩] := by
    have := upls_box (w.alloc (.cells #[.int .u64 (id : Nat), .string qk, .slice A3 n3 c3] 40)) ⟨id, qk, qL⟩ (.slice A3 n3 c3) uq (tq.on q00)
    simpa only [World.size_alloc] using this
  have FL := Lib.hid (fewUp_any _ _ _ (by simp [maxLen]) ONE)
  have FE : fewL [⟨id, qk, qL⟩] = [fewU ⟨id, qk, qL⟩] := rfl
  rw [FE] at FL
  have sU : smU (fewU ⟨id, qk, qL⟩) := (fewL_sm [⟨id, qk, qL⟩]).2 _ (by rw [FE]; simp)
  obtain ⟨U, hU⟩ : ∃ U, U = fewU ⟨id, qk, qL⟩ := ⟨_, rfl⟩
  rw [← hU] at FL sU
  simp only [upl]
  go_enter Try.func9, Try.ntmps9
  go_wp2_with fail
  refine (FL.out).mono ?_
  rintro e w1 ⟨u1, rfl, h1, q1⟩
  obtain ⟨a, c', rfl, ha, A2, c2, hps, hat⟩ := h1.pick 0 (by simp)
  simp only [List.getElem_cons_zero, Nat.zero_mul, List.length_singleton, addr0] at hps hat ⊢
  have bx := (Bx.new w 40 #[.int .u64 (id : Nat), .string qk, .slice A3 n3 c3]).on (((Q.refl _).alloc (.cells #[.int .u64 (id : Nat), .string qk, .slice A3 n3 c3] 40)).trans q1)
  have qA := q01.trans q1
  obtain ⟨g0, g1, g2⟩ := hat w1 (Q.refl w1)
  have x0 := bx.cell 0
  have x1 := bx.cell 1
  have x2 := bx.cell 2
  have y0 := bx.frozen 0
  have y1 := bx.frozen 1
  have y2 := bx.frozen 2
  simp only [List.getElem?_toArray, List.getElem?_cons_zero, List.getElem?_cons_succ] at x0 x1 x2
  clear hU
  obtain ⟨ui, uk, UL⟩ := U
  simp only at hps g0 g1 g2 ⊢
  obtain ⟨n2, hn2⟩ : ∃ n, UL.length = n := ⟨_, rfl⟩
  rw [hn2] at hps g2
  obtain ⟨A7, c7, rfl⟩ := t1.form
  obtain ⟨M, hM⟩ : ∃ n, l.length = n := ⟨_, rfl⟩
  rw [hM] at t1 z1 ⊢
  have bxE := ((bx.set 0 (.int .u64 (ui : Nat))).set 1 (.string uk)).set 2 (.slice A2 n2 c2)
  have hk : ∀ j, j ≠ w.heap.size → (((w1.setCell ⟨w.heap.size, 0, none⟩ (.int .u64 (ui : Nat))).setCell ⟨w.heap.size, 1, none⟩ (.string uk)).setCell ⟨w.heap.size, 2, none⟩ (.slice A2 n2 c2)).heap[j]? = w1.heap[j]? := fun j hj => ((heap_set _ _ _ _ hj).trans (heap_set _ _ _ _ hj)).trans (heap_set _ _ _ _ hj)
  have psE := Prts.boxedU hps bx hk (by simp)
  have qE := ((qA.set (Nat.le_refl w.heap.size) (k := 0) (.int .u64 (ui : Nat))).set (Nat.le_refl w.heap.size) (k := 1) (.string uk)).set (Nat.le_refl w.heap.size) (k := 2) (.slice A2 n2 c2)
  clear hk FL ONE FE uq tq q00 q01 hat h1 ha q1 qA bx
  go_upto_region 2 with fail
  generalize ((w1.setCell ⟨w.heap.size, 0, none⟩ (.int .u64 (ui : Nat))).setCell ⟨w.heap.size, 1, none⟩ (.string uk)).setCell ⟨w.heap.size, 2, none⟩ (.slice A2 n2 c2) = wE at bxE psE qE ⊢
  simp only [List.setIfInBounds_toArray, List.set_cons_zero, List.set_cons_succ] at bxE
  clear x0 x1 x2 y0 y1 y2 g0 g1 g2
  have AW := Lib.hid fun d => awakeU_any d
  have HM := Lib.hid hM
  unfold maxLen at z1
  have hcap : M ≤ c7 := by
    obtain ⟨A', c', e', e0, -⟩ := t1
    injection e' with e1 e2 e3
    omega
  by_cases hb : M ≤ 30 ∧ 2 ≤ M
  · obtain ⟨hb1, hb2⟩ := hb
    obtain ⟨x, rfl, hx⟩ : ∃ n : Nat, at' = n ∧ n < 256 := by
      have h2 : 0 ≤ at' ∧ at' ≤ 255 := by simpa [Lit.wf, IntKind.min, IntKind.max, IntKind.signed, IntKind.bits] using w2
      exact ⟨at'.toNat, by omega, by omega⟩
    obtain ⟨r, hr⟩ : ∃ r, r = x % (M - 1) := ⟨_, rfl⟩
    have hr2 : r < M - 1 := by rw [hr]; exact Nat.mod_lt _ (by omega)
    have hM1 : (M : Int) - 1 = ((M - 1 : Nat) : Int) := by omega
    have hmod : Int.tmod (x : Int) ((M - 1 : Nat) : Int) = (r : Int) := by rw [hr]; exact (Int.ofNat_tmod x (M - 1))
    have hM0 : ¬ ((M - 1 : Nat) : Int) = 0 := by omega
    have n30 : ¬ (30 : Int) < (M : Int) := by omega
    have n2' : ¬ (M : Int) < 2 := by omega
    obtain ⟨k, hk⟩ : ∃ k, k = 1 + r := ⟨_, rfl⟩
    have hkk : (1 : Int) + (r : Int) = (k : Int) := by omega
    have hk1 : 1 ≤ k := by omega
    have hk2 : k < M := by omega
    have hki : (k : Int) ≤ (M : Int) := by omega
    have hkc : k ≤ c7 := by omega
    have hkM : k ≤ M := by omega
    have hck : ¬ c7 = k := by omega
    obtain ⟨a7, rfl⟩ : ∃ a, A7 = some a := by
      obtain ⟨A', c', e', e0, ez, eo, f⟩ := t1
      injection e' with e1 e2 e3
      obtain ⟨a, e, -⟩ := f 0 (by omega)
      exact ⟨a, by rw [e1]; exact e⟩
    have tz := (t1.on qE)
    have hBx : ∀ b, Q wE b → (fun W => W.cell? ⟨w.heap.size, 0, none⟩ = some (.int .u64 (ui : Nat)) ∧ W.cell? ⟨w.heap.size, 1, none⟩ = some (.string uk) ∧ W.cell? ⟨w.heap.size, 2, none⟩ = some (.slice A2 n2 c2) ∧ Q wE W) b := fun b q => by
      have := bxE.on q
      exact ⟨this.cell 0, this.cell 1, this.cell 2, q⟩
    have BE := Lib.hid hBx
    have hkl : k < l.length := by omega
    have WW : ∀ (l' : List Pce) (zz : Value) (s t : List UInt8) (e : Nat), WholeC ⟨ui, uk, UL⟩ l' s t e → l'.length ≤ 1000 → Pces wE wE.heap.size zz l' → Hid (∀ d, (fun W => W.cell? ⟨w.heap.size, 0, none⟩ = some (.int .u64 (ui : Nat)) ∧ W.cell? ⟨w.heap.size, 1, none⟩ = some (.string uk) ∧ W.cell? ⟨w.heap.size, 2, none⟩ = some (.slice A2 n2 c2) ∧ Q wE W) d → Calls Try.prog 28 #[.agg #[.int .u64 (ui : Nat), .string uk, .slice A2 n2 c2], zz] d fun e' w' => e' = .returned (.tuple #[.string (mk s), .string (mk t), .int .i64 (e : Nat)]) ∧ (fun W => W.cell? ⟨w.heap.size, 0, none⟩ = some (.int .u64 (ui : Nat)) ∧ W.cell? ⟨w.heap.size, 1, none⟩ = some (.string uk) ∧ W.cell? ⟨w.heap.size, 2, none⟩ = some (.slice A2 n2 c2) ∧ Q wE W) w') := fun l' zz s t e hh hl hz => Lib.hid fun d hd => by
      have := whole_any ⟨ui, uk, UL⟩ (.slice A2 n2 c2) l' zz d s t e hh sU hl (psE.on hd.2.2.2) (hz.on hd.2.2.2)
      refine this.mono ?_
      rintro e' w' ⟨h1, h2⟩
      exact ⟨h1, hBx _ (hd.2.2.2.trans h2)⟩
    have pT : Pces wE wE.heap.size (.slice (some a7) k c7) (l.take k) := tz.cutTake (by omega)
    have pD : Pces wE wE.heap.size (.slice (some (a7.add (k * 2))) (M - k) (c7 - k)) (l.drop k) := by have := tz.cutDrop (i := k) (by omega); rw [hM] at this; exact this
    obtain ⟨s, t, e, hW⟩ := wholeC_ex ⟨ui, uk, UL⟩ l
    by_cases he : e = 0
    · subst he
      obtain ⟨sa, sb, ta, tb, hA, hB, hs⟩ := whole_cut hW hk1 hkl
      have C1 := WW _ _ _ _ _ hW (by omega) tz
      have C2 := WW _ _ _ _ _ hA (by rw [List.length_take]; omega) pT
      have C3 := WW _ _ _ _ _ hB (by rw [List.length_drop]; omega) pD
      have hs2 : mk s = mk sa ++ mk sb := bl_inj (by rw [bl_append, bl_mk, bl_mk, bl_mk, hs])
      have z1' : (mk sa).size ≤ 2000 := by rw [mk_size]; exact whole_size hA
      have z2' : (mk sb).size ≤ 2000 := by rw [mk_size]; exact whole_size hB
      obtain ⟨X, hX⟩ : ∃ X, X = mk s := ⟨_, rfl⟩
      obtain ⟨X1, hX1⟩ : ∃ X, X = mk sa := ⟨_, rfl⟩
      obtain ⟨X2, hX2⟩ : ∃ X, X = mk sb := ⟨_, rfl⟩
      obtain ⟨Y, hY⟩ : ∃ X, X = mk t := ⟨_, rfl⟩
      obtain ⟨Y1, hY1⟩ : ∃ X, X = mk ta := ⟨_, rfl⟩
      obtain ⟨Y2, hY2⟩ : ∃ X, X = mk tb := ⟨_, rfl⟩
      rw [← hX, ← hY] at C1
      rw [← hX1, ← hY1] at C2
      rw [← hX2, ← hY2] at C3
      rw [← hX, ← hX1, ← hX2] at hs2
      rw [← hX1] at z1'
      rw [← hX2] at z2'
      have z3' : X1.size + X2.size ≤ 4000 := by omega
      have z4' : (X1 ++ X2).size ≤ 4000 := by rw [ByteArray.size_append]; omega
      subst hs2
      have heq : ((X1 ++ X2).toList == (X1 ++ X2).toList) = true := by simp
      clear hX hX1 hX2 hY hY1 hY2 hs hA hB hW WW hBx pT pD tz psE bxE t1 hM hkl w2 hr hk sU hn2 hps
      obtain ⟨b0, b1, b2, -⟩ := BE.out _ (Q.refl wE)
      go_wp2_with fail
      refine (C1.out _ (BE.out _ (Q.refl _))).mono ?_
      rintro e w2 ⟨rfl, -, -, -, q2⟩
      clear b0 b1 b2
      go_upto_region 6 with fail
      refine wp_region_held_drew (S := (fun W => W.cell? ⟨w.heap.size, 0, none⟩ = some (.int .u64 (ui : Nat)) ∧ W.cell? ⟨w.heap.size, 1, none⟩ = some (.string uk) ∧ W.cell? ⟨w.heap.size, 2, none⟩ = some (.slice A2 n2 c2) ∧ Q wE W)) (by kernel_rfl) (BE.out _ q2.drew) (fun hHeld => ?_)
      refine wpAnyH_take (i := 0) (oi := _) (v := ?_) rfl (by kernel_rfl) (by kernel_rfl) (by kernel_rfl) (fun _ _ _ h => h) (Or.inl ⟨by rfl, ?_⟩) (by assumption) ?_
      rotate_left
      · (intro wx hSw; (try dsimp only at hSw); go_simp; (try with_reducible rfl))
      (try simp only [Act.put, List.getElem_toArray, List.getElem_cons_zero, List.getElem_cons_succ, List.setIfInBounds_toArray, List.set_cons_zero, List.set_cons_succ])
      refine wpAnyH_take (i := 1) (oi := _) (v := ?_) rfl (by kernel_rfl) (by kernel_rfl) (by kernel_rfl) (fun _ _ _ h => h) (Or.inl ⟨by rfl, ?_⟩) (by assumption) ?_
      rotate_left
      · (intro wx hSw; (try dsimp only at hSw); go_simp; (try with_reducible rfl))
      (try simp only [Act.put, List.getElem_toArray, List.getElem_cons_zero, List.getElem_cons_succ, List.setIfInBounds_toArray, List.set_cons_zero, List.set_cons_succ])
      refine wpAnyH_take (i := 2) (oi := _) (v := ?_) rfl (by kernel_rfl) (by kernel_rfl) (by kernel_rfl) (fun _ _ _ h => h) (Or.inl ⟨by rfl, ?_⟩) (by assumption) ?_
      rotate_left
      · (intro wx hSw; (try dsimp only at hSw); go_simp; (try with_reducible rfl))
      (try simp only [Act.put, List.getElem_toArray, List.getElem_cons_zero, List.getElem_cons_succ, List.setIfInBounds_toArray, List.set_cons_zero, List.set_cons_succ])
      refine wpAnyH_take (i := 3) (oi := _) (v := ?_) rfl (by kernel_rfl) (by kernel_rfl) (by kernel_rfl) (fun _ _ _ h => h) (Or.inl ⟨by rfl, ?_⟩) (by assumption) ?_
      rotate_left
      · (intro wx hSw; (try dsimp only at hSw); go_simp; (try with_reducible rfl))
      (try simp only [Act.put, List.getElem_toArray, List.getElem_cons_zero, List.getElem_cons_succ, List.setIfInBounds_toArray, List.set_cons_zero, List.set_cons_succ])
      refine wpAnyH_ready (rs := [4]) (by kernel_rfl) (by simp) ?_
      refine AllReadyH.cons (o := _) rfl (fun K hK => ?_) AllReadyH.nil
      go_simp
      go_at_call 28
      refine (C2.out _ (by assumption)).mono ?_
      rintro e w' ⟨rfl, hS⟩
      refine hK.out _ _ hS (fun hHeld => ?_)
      clear hK K
      (try simp only [Act.put, List.getElem_toArray, List.getElem_cons_zero, List.getElem_cons_succ, List.setIfInBounds_toArray, List.set_cons_zero, List.set_cons_succ])
      refine wpAnyH_take (i := 5) (oi := _) (v := ?_) rfl (by kernel_rfl) (by kernel_rfl) (by kernel_rfl) (fun _ _ _ h => h) (Or.inl ⟨by rfl, ?_⟩) (by assumption) ?_
      rotate_left
      · (intro wx hSw; (try dsimp only at hSw); go_simp; (try with_reducible rfl))
      (try simp only [Act.put, List.getElem_toArray, List.getElem_cons_zero, List.getElem_cons_succ, List.setIfInBounds_toArray, List.set_cons_zero, List.set_cons_succ])
      refine wpAnyH_take (i := 6) (oi := _) (v := ?_) rfl (by kernel_rfl) (by kernel_rfl) (by kernel_rfl) (fun _ _ _ h => h) (Or.inl ⟨by rfl, ?_⟩) (by assumption) ?_
      rotate_left
      · (intro wx hSw; (try dsimp only at hSw); go_simp; (try with_reducible rfl))
      (try simp only [Act.put, List.getElem_toArray, List.getElem_cons_zero, List.getElem_cons_succ, List.setIfInBounds_toArray, List.set_cons_zero, List.set_cons_succ])
      refine wpAnyH_take (i := 7) (oi := _) (v := ?_) rfl (by kernel_rfl) (by kernel_rfl) (by kernel_rfl) (fun _ _ _ h => h) (Or.inl ⟨by rfl, ?_⟩) (by assumption) ?_
      rotate_left
      · (intro wx hSw; (try dsimp only at hSw); go_simp; (try with_reducible rfl))
      (try simp only [Act.put, List.getElem_toArray, List.getElem_cons_zero, List.getElem_cons_succ, List.setIfInBounds_toArray, List.set_cons_zero, List.set_cons_succ])
      refine wpAnyH_take (i := 8) (oi := _) (v := ?_) rfl (by kernel_rfl) (by kernel_rfl) (by kernel_rfl) (fun _ _ _ h => h) (Or.inl ⟨by rfl, ?_⟩) (by assumption) ?_
      rotate_left
      · (intro wx hSw; (try dsimp only at hSw); go_simp; (try with_reducible rfl))
      (try simp only [Act.put, List.getElem_toArray, List.getElem_cons_zero, List.getElem_cons_succ, List.setIfInBounds_toArray, List.set_cons_zero, List.set_cons_succ])
      refine wpAnyH_take (i := 9) (oi := _) (v := ?_) rfl (by kernel_rfl) (by kernel_rfl) (by kernel_rfl) (fun _ _ _ h => h) (Or.inl ⟨by rfl, ?_⟩) (by assumption) ?_
      rotate_left
      · (intro wx hSw; (try dsimp only at hSw); go_simp; (try with_reducible rfl))
      (try simp only [Act.put, List.getElem_toArray, List.getElem_cons_zero, List.getElem_cons_succ, List.setIfInBounds_toArray, List.set_cons_zero, List.set_cons_succ])
      refine wpAnyH_take (i := 10) (oi := _) (v := ?_) rfl (by kernel_rfl) (by kernel_rfl) (by kernel_rfl) (fun _ _ _ h => h) (Or.inl ⟨by rfl, ?_⟩) (by assumption) ?_
      rotate_left
      · (intro wx hSw; (try dsimp only at hSw); go_simp; (try with_reducible rfl))
      (try simp only [Act.put, List.getElem_toArray, List.getElem_cons_zero, List.getElem_cons_succ, List.setIfInBounds_toArray, List.set_cons_zero, List.set_cons_succ])
      refine wpAnyH_take (i := 11) (oi := _) (v := ?_) rfl (by kernel_rfl) (by kernel_rfl) (by kernel_rfl) (fun _ _ _ h => h) (Or.inl ⟨by rfl, ?_⟩) (by assumption) ?_
      rotate_left
      · (intro wx hSw; (try dsimp only at hSw); go_simp; (try with_reducible rfl))
      (try simp only [Act.put, List.getElem_toArray, List.getElem_cons_zero, List.getElem_cons_succ, List.setIfInBounds_toArray, List.set_cons_zero, List.set_cons_succ])
      refine wpAnyH_done (by kernel_rfl) ?_ _
      have q3 := hHeld.2.2.2
      clear hHeld
      go_upto_region 7 with fail
      refine wp_region_held_drew (S := (fun W => W.cell? ⟨w.heap.size, 0, none⟩ = some (.int .u64 (ui : Nat)) ∧ W.cell? ⟨w.heap.size, 1, none⟩ = some (.string uk) ∧ W.cell? ⟨w.heap.size, 2, none⟩ = some (.slice A2 n2 c2) ∧ Q wE W)) (by kernel_rfl) (BE.out _ q3.drew) (fun hHeld => ?_)
      refine wpAnyH_take (i := 0) (oi := _) (v := ?_) rfl (by kernel_rfl) (by kernel_rfl) (by kernel_rfl) (fun _ _ _ h => h) (Or.inl ⟨by rfl, ?_⟩) (by assumption) ?_
      rotate_left
      · (intro wx hSw; (try dsimp only at hSw); go_simp; (try with_reducible rfl))
      (try simp only [Act.put, List.getElem_toArray, List.getElem_cons_zero, List.getElem_cons_succ, List.setIfInBounds_toArray, List.set_cons_zero, List.set_cons_succ])
      refine wpAnyH_take (i := 1) (oi := _) (v := ?_) rfl (by kernel_rfl) (by kernel_rfl) (by kernel_rfl) (fun _ _ _ h => h) (Or.inl ⟨by rfl, ?_⟩) (by assumption) ?_
      rotate_left
      · (intro wx hSw; (try dsimp only at hSw); go_simp; (try with_reducible rfl))
      (try simp only [Act.put, List.getElem_toArray, List.getElem_cons_zero, List.getElem_cons_succ, List.setIfInBounds_toArray, List.set_cons_zero, List.set_cons_succ])
      refine wpAnyH_take (i := 2) (oi := _) (v := ?_) rfl (by kernel_rfl) (by kernel_rfl) (by kernel_rfl) (fun _ _ _ h => h) (Or.inl ⟨by rfl, ?_⟩) (by assumption) ?_
      rotate_left
      · (intro wx hSw; (try dsimp only at hSw); go_simp; (try with_reducible rfl))
      (try simp only [Act.put, List.getElem_toArray, List.getElem_cons_zero, List.getElem_cons_succ, List.setIfInBounds_toArray, List.set_cons_zero, List.set_cons_succ])
      refine wpAnyH_take (i := 3) (oi := _) (v := ?_) rfl (by kernel_rfl) (by kernel_rfl) (by kernel_rfl) (fun _ _ _ h => h) (Or.inl ⟨by rfl, ?_⟩) (by assumption) ?_
      rotate_left
      · (intro wx hSw; (try dsimp only at hSw); go_simp; (try with_reducible rfl))
      (try simp only [Act.put, List.getElem_toArray, List.getElem_cons_zero, List.getElem_cons_succ, List.setIfInBounds_toArray, List.set_cons_zero, List.set_cons_succ])
      refine wpAnyH_ready (rs := [4]) (by kernel_rfl) (by simp) ?_
      refine AllReadyH.cons (o := _) rfl (fun K hK => ?_) AllReadyH.nil
      go_simp
      go_at_call 28
      refine (C3.out _ (by assumption)).mono ?_
      rintro e w' ⟨rfl, hS⟩
      refine hK.out _ _ hS (fun hHeld => ?_)
      clear hK K
      (try simp only [Act.put, List.getElem_toArray, List.getElem_cons_zero, List.getElem_cons_succ, List.setIfInBounds_toArray, List.set_cons_zero, List.set_cons_succ])
      refine wpAnyH_take (i := 5) (oi := _) (v := ?_) rfl (by kernel_rfl) (by kernel_rfl) (by kernel_rfl) (fun _ _ _ h => h) (Or.inl ⟨by rfl, ?_⟩) (by assumption) ?_
      rotate_left
      · (intro wx hSw; (try dsimp only at hSw); go_simp; (try with_reducible rfl))
      (try simp only [Act.put, List.getElem_toArray, List.getElem_cons_zero, List.getElem_cons_succ, List.setIfInBounds_toArray, List.set_cons_zero, List.set_cons_succ])
      refine wpAnyH_take (i := 6) (oi := _) (v := ?_) rfl (by kernel_rfl) (by kernel_rfl) (by kernel_rfl) (fun _ _ _ h => h) (Or.inl ⟨by rfl, ?_⟩) (by assumption) ?_
      rotate_left
      · (intro wx hSw; (try dsimp only at hSw); go_simp; (try with_reducible rfl))
      (try simp only [Act.put, List.getElem_toArray, List.getElem_cons_zero, List.getElem_cons_succ, List.setIfInBounds_toArray, List.set_cons_zero, List.set_cons_succ])
      refine wpAnyH_take (i := 7) (oi := _) (v := ?_) rfl (by kernel_rfl) (by kernel_rfl) (by kernel_rfl) (fun _ _ _ h => h) (Or.inl ⟨by rfl, ?_⟩) (by assumption) ?_
      rotate_left
      · (intro wx hSw; (try dsimp only at hSw); go_simp; (try with_reducible rfl))
      (try simp only [Act.put, List.getElem_toArray, List.getElem_cons_zero, List.getElem_cons_succ, List.setIfInBounds_toArray, List.set_cons_zero, List.set_cons_succ])
      refine wpAnyH_take (i := 8) (oi := _) (v := ?_) rfl (by kernel_rfl) (by kernel_rfl) (by kernel_rfl) (fun _ _ _ h => h) (Or.inl ⟨by rfl, ?_⟩) (by assumption) ?_
      rotate_left
      · (intro wx hSw; (try dsimp only at hSw); go_simp; (try with_reducible rfl))
      (try simp only [Act.put, List.getElem_toArray, List.getElem_cons_zero, List.getElem_cons_succ, List.setIfInBounds_toArray, List.set_cons_zero, List.set_cons_succ])
      refine wpAnyH_take (i := 9) (oi := _) (v := ?_) rfl (by kernel_rfl) (by kernel_rfl) (by kernel_rfl) (fun _ _ _ h => h) (Or.inl ⟨by rfl, ?_⟩) (by assumption) ?_
      rotate_left
      · (intro wx hSw; (try dsimp only at hSw); go_simp; (try with_reducible rfl))
      (try simp only [Act.put, List.getElem_toArray, List.getElem_cons_zero, List.getElem_cons_succ, List.setIfInBounds_toArray, List.set_cons_zero, List.set_cons_succ])
      refine wpAnyH_take (i := 10) (oi := _) (v := ?_) rfl (by kernel_rfl) (by kernel_rfl) (by kernel_rfl) (fun _ _ _ h => h) (Or.inl ⟨by rfl, ?_⟩) (by assumption) ?_
      rotate_left
      · (intro wx hSw; (try dsimp only at hSw); go_simp; (try with_reducible rfl))
      (try simp only [Act.put, List.getElem_toArray, List.getElem_cons_zero, List.getElem_cons_succ, List.setIfInBounds_toArray, List.set_cons_zero, List.set_cons_succ])
      refine wpAnyH_take (i := 11) (oi := _) (v := ?_) rfl (by kernel_rfl) (by kernel_rfl) (by kernel_rfl) (fun _ _ _ h => h) (Or.inl ⟨by rfl, ?_⟩) (by assumption) ?_
      rotate_left
      · (intro wx hSw; (try dsimp only at hSw); go_simp; (try with_reducible rfl))
      (try simp only [Act.put, List.getElem_toArray, List.getElem_cons_zero, List.getElem_cons_succ, List.setIfInBounds_toArray, List.set_cons_zero, List.set_cons_succ])
      refine wpAnyH_done (by kernel_rfl) ?_ _
      have q4 := hHeld.2.2.2
      clear hHeld
      go_wp2_with fail
      refine (AW.out _).mono ?_
      rintro e w9 ⟨rfl, q9⟩
      go_wp2
      go_ret
      exact ⟨rfl, qE.trans (q4.trans q9)⟩
    · have C1 := WW _ _ _ _ _ hW (by omega) tz
      obtain ⟨sa, ta, ea, hA⟩ := wholeC_ex ⟨ui, uk, UL⟩ (l.take k)
      obtain ⟨sb, tb, eb, hB⟩ := wholeC_ex ⟨ui, uk, UL⟩ (l.drop k)
      have C2 := WW _ _ _ _ _ hA (by rw [List.length_take]; omega) pT
      have C3 := WW _ _ _ _ _ hB (by rw [List.length_drop]; omega) pD
      have hs0 := wholeC_err hW he
      subst hs0
      have hmk : (mk [] : ByteArray) = ⟨#[]⟩ := rfl
      rw [hmk] at C1
      have hei : ¬ (e : Int) = 0 := by omega
      obtain ⟨X1, hX1⟩ : ∃ X, X = mk sa := ⟨_, rfl⟩
      obtain ⟨X2, hX2⟩ : ∃ X, X = mk sb := ⟨_, rfl⟩
      obtain ⟨Y, hY⟩ : ∃ X, X = mk t := ⟨_, rfl⟩
      obtain ⟨Y1, hY1⟩ : ∃ X, X = mk ta := ⟨_, rfl⟩
      obtain ⟨Y2, hY2⟩ : ∃ X, X = mk tb := ⟨_, rfl⟩
      rw [← hY] at C1
      rw [← hX1, ← hY1] at C2
      rw [← hX2, ← hY2] at C3
      clear hmk hX1 hX2 hY hY1 hY2 hA hB hW WW hBx pT pD tz psE bxE t1 hM hkl w2 hr hk sU hn2 hps he
      obtain ⟨b0, b1, b2, -⟩ := BE.out _ (Q.refl wE)
      go_wp2_with fail
      refine (C1.out _ (BE.out _ (Q.refl _))).mono ?_
      rintro e w2 ⟨rfl, -, -, -, q2⟩
      clear b0 b1 b2
      go_upto_region 6 with fail
      refine wp_region_held_drew (S := (fun W => W.cell? ⟨w.heap.size, 0, none⟩ = some (.int .u64 (ui : Nat)) ∧ W.cell? ⟨w.heap.size, 1, none⟩ = some (.string uk) ∧ W.cell? ⟨w.heap.size, 2, none⟩ = some (.slice A2 n2 c2) ∧ Q wE W)) (by kernel_rfl) (BE.out _ q2.drew) (fun hHeld => ?_)
      refine wpAnyH_take (i := 0) (oi := _) (v := ?_) rfl (by kernel_rfl) (by kernel_rfl) (by kernel_rfl) (fun _ _ _ h => h) (Or.inl ⟨by rfl, ?_⟩) (by assumption) ?_
      rotate_left
      · (intro wx hSw; (try dsimp only at hSw); go_simp; (try with_reducible rfl))
      (try simp only [Act.put, List.getElem_toArray, List.getElem_cons_zero, List.getElem_cons_succ, List.setIfInBounds_toArray, List.set_cons_zero, List.set_cons_succ])
      refine wpAnyH_take (i := 1) (oi := _) (v := ?_) rfl (by kernel_rfl) (by kernel_rfl) (by kernel_rfl) (fun _ _ _ h => h) (Or.inl ⟨by rfl, ?_⟩) (by assumption) ?_
      rotate_left
      · (intro wx hSw; (try dsimp only at hSw); go_simp; (try with_reducible rfl))
      (try simp only [Act.put, List.getElem_toArray, List.getElem_cons_zero, List.getElem_cons_succ, List.setIfInBounds_toArray, List.set_cons_zero, List.set_cons_succ])
      refine wpAnyH_take (i := 2) (oi := _) (v := ?_) rfl (by kernel_rfl) (by kernel_rfl) (by kernel_rfl) (fun _ _ _ h => h) (Or.inl ⟨by rfl, ?_⟩) (by assumption) ?_
      rotate_left
      · (intro wx hSw; (try dsimp only at hSw); go_simp; (try with_reducible rfl))
      (try simp only [Act.put, List.getElem_toArray, List.getElem_cons_zero, List.getElem_cons_succ, List.setIfInBounds_toArray, List.set_cons_zero, List.set_cons_succ])
      refine wpAnyH_take (i := 3) (oi := _) (v := ?_) rfl (by kernel_rfl) (by kernel_rfl) (by kernel_rfl) (fun _ _ _ h => h) (Or.inl ⟨by rfl, ?_⟩) (by assumption) ?_
      rotate_left
      · (intro wx hSw; (try dsimp only at hSw); go_simp; (try with_reducible rfl))
      (try simp only [Act.put, List.getElem_toArray, List.getElem_cons_zero, List.getElem_cons_succ, List.setIfInBounds_toArray, List.set_cons_zero, List.set_cons_succ])
      refine wpAnyH_ready (rs := [4]) (by kernel_rfl) (by simp) ?_
      refine AllReadyH.cons (o := _) rfl (fun K hK => ?_) AllReadyH.nil
      go_simp
      go_at_call 28
      refine (C2.out _ (by assumption)).mono ?_
      rintro e w' ⟨rfl, hS⟩
      refine hK.out _ _ hS (fun hHeld => ?_)
      clear hK K
      (try simp only [Act.put, List.getElem_toArray, List.getElem_cons_zero, List.getElem_cons_succ, List.setIfInBounds_toArray, List.set_cons_zero, List.set_cons_succ])
      refine wpAnyH_take (i := 5) (oi := _) (v := ?_) rfl (by kernel_rfl) (by kernel_rfl) (by kernel_rfl) (fun _ _ _ h => h) (Or.inl ⟨by rfl, ?_⟩) (by assumption) ?_
      rotate_left
      · (intro wx hSw; (try dsimp only at hSw); go_simp; (try with_reducible rfl))
      (try simp only [Act.put, List.getElem_toArray, List.getElem_cons_zero, List.getElem_cons_succ, List.setIfInBounds_toArray, List.set_cons_zero, List.set_cons_succ])
      refine wpAnyH_take (i := 6) (oi := _) (v := ?_) rfl (by kernel_rfl) (by kernel_rfl) (by kernel_rfl) (fun _ _ _ h => h) (Or.inl ⟨by rfl, ?_⟩) (by assumption) ?_
      rotate_left
      · (intro wx hSw; (try dsimp only at hSw); go_simp; (try with_reducible rfl))
      (try simp only [Act.put, List.getElem_toArray, List.getElem_cons_zero, List.getElem_cons_succ, List.setIfInBounds_toArray, List.set_cons_zero, List.set_cons_succ])
      refine wpAnyH_take (i := 7) (oi := _) (v := ?_) rfl (by kernel_rfl) (by kernel_rfl) (by kernel_rfl) (fun _ _ _ h => h) (Or.inl ⟨by rfl, ?_⟩) (by assumption) ?_
      rotate_left
      · (intro wx hSw; (try dsimp only at hSw); go_simp; (try with_reducible rfl))
      (try simp only [Act.put, List.getElem_toArray, List.getElem_cons_zero, List.getElem_cons_succ, List.setIfInBounds_toArray, List.set_cons_zero, List.set_cons_succ])
      refine wpAnyH_take (i := 8) (oi := _) (v := ?_) rfl (by kernel_rfl) (by kernel_rfl) (by kernel_rfl) (fun _ _ _ h => h) (Or.inl ⟨by rfl, ?_⟩) (by assumption) ?_
      rotate_left
      · (intro wx hSw; (try dsimp only at hSw); go_simp; (try with_reducible rfl))
      (try simp only [Act.put, List.getElem_toArray, List.getElem_cons_zero, List.getElem_cons_succ, List.setIfInBounds_toArray, List.set_cons_zero, List.set_cons_succ])
      refine wpAnyH_take (i := 9) (oi := _) (v := ?_) rfl (by kernel_rfl) (by kernel_rfl) (by kernel_rfl) (fun _ _ _ h => h) (Or.inl ⟨by rfl, ?_⟩) (by assumption) ?_
      rotate_left
      · (intro wx hSw; (try dsimp only at hSw); go_simp; (try with_reducible rfl))
      (try simp only [Act.put, List.getElem_toArray, List.getElem_cons_zero, List.getElem_cons_succ, List.setIfInBounds_toArray, List.set_cons_zero, List.set_cons_succ])
      refine wpAnyH_take (i := 10) (oi := _) (v := ?_) rfl (by kernel_rfl) (by kernel_rfl) (by kernel_rfl) (fun _ _ _ h => h) (Or.inl ⟨by rfl, ?_⟩) (by assumption) ?_
      rotate_left
      · (intro wx hSw; (try dsimp only at hSw); go_simp; (try with_reducible rfl))
      (try simp only [Act.put, List.getElem_toArray, List.getElem_cons_zero, List.getElem_cons_succ, List.setIfInBounds_toArray, List.set_cons_zero, List.set_cons_succ])
      refine wpAnyH_take (i := 11) (oi := _) (v := ?_) rfl (by kernel_rfl) (by kernel_rfl) (by kernel_rfl) (fun _ _ _ h => h) (Or.inl ⟨by rfl, ?_⟩) (by assumption) ?_
      rotate_left
      · (intro wx hSw; (try dsimp only at hSw); go_simp; (try with_reducible rfl))
      (try simp only [Act.put, List.getElem_toArray, List.getElem_cons_zero, List.getElem_cons_succ, List.setIfInBounds_toArray, List.set_cons_zero, List.set_cons_succ])
      refine wpAnyH_done (by kernel_rfl) ?_ _
      have q3 := hHeld.2.2.2
      clear hHeld
      go_upto_region 7 with fail
      refine wp_region_held_drew (S := (fun W => W.cell? ⟨w.heap.size, 0, none⟩ = some (.int .u64 (ui : Nat)) ∧ W.cell? ⟨w.heap.size, 1, none⟩ = some (.string uk) ∧ W.cell? ⟨w.heap.size, 2, none⟩ = some (.slice A2 n2 c2) ∧ Q wE W)) (by kernel_rfl) (BE.out _ q3.drew) (fun hHeld => ?_)
      refine wpAnyH_take (i := 0) (oi := _) (v := ?_) rfl (by kernel_rfl) (by kernel_rfl) (by kernel_rfl) (fun _ _ _ h => h) (Or.inl ⟨by rfl, ?_⟩) (by assumption) ?_
      rotate_left
      · (intro wx hSw; (try dsimp only at hSw); go_simp; (try with_reducible rfl))
      (try simp only [Act.put, List.getElem_toArray, List.getElem_cons_zero, List.getElem_cons_succ, List.setIfInBounds_toArray, List.set_cons_zero, List.set_cons_succ])
      refine wpAnyH_take (i := 1) (oi := _) (v := ?_) rfl (by kernel_rfl) (by kernel_rfl) (by kernel_rfl) (fun _ _ _ h => h) (Or.inl ⟨by rfl, ?_⟩) (by assumption) ?_
      rotate_left
      · (intro wx hSw; (try dsimp only at hSw); go_simp; (try with_reducible rfl))
      (try simp only [Act.put, List.getElem_toArray, List.getElem_cons_zero, List.getElem_cons_succ, List.setIfInBounds_toArray, List.set_cons_zero, List.set_cons_succ])
      refine wpAnyH_take (i := 2) (oi := _) (v := ?_) rfl (by kernel_rfl) (by kernel_rfl) (by kernel_rfl) (fun _ _ _ h => h) (Or.inl ⟨by rfl, ?_⟩) (by assumption) ?_
      rotate_left
      · (intro wx hSw; (try dsimp only at hSw); go_simp; (try with_reducible rfl))
      (try simp only [Act.put, List.getElem_toArray, List.getElem_cons_zero, List.getElem_cons_succ, List.setIfInBounds_toArray, List.set_cons_zero, List.set_cons_succ])
      refine wpAnyH_take (i := 3) (oi := _) (v := ?_) rfl (by kernel_rfl) (by kernel_rfl) (by kernel_rfl) (fun _ _ _ h => h) (Or.inl ⟨by rfl, ?_⟩) (by assumption) ?_
      rotate_left
      · (intro wx hSw; (try dsimp only at hSw); go_simp; (try with_reducible rfl))
      (try simp only [Act.put, List.getElem_toArray, List.getElem_cons_zero, List.getElem_cons_succ, List.setIfInBounds_toArray, List.set_cons_zero, List.set_cons_succ])
      refine wpAnyH_ready (rs := [4]) (by kernel_rfl) (by simp) ?_
      refine AllReadyH.cons (o := _) rfl (fun K hK => ?_) AllReadyH.nil
      go_simp
      go_at_call 28
      refine (C3.out _ (by assumption)).mono ?_
      rintro e w' ⟨rfl, hS⟩
      refine hK.out _ _ hS (fun hHeld => ?_)
      clear hK K
      (try simp only [Act.put, List.getElem_toArray, List.getElem_cons_zero, List.getElem_cons_succ, List.setIfInBounds_toArray, List.set_cons_zero, List.set_cons_succ])
      refine wpAnyH_take (i := 5) (oi := _) (v := ?_) rfl (by kernel_rfl) (by kernel_rfl) (by kernel_rfl) (fun _ _ _ h => h) (Or.inl ⟨by rfl, ?_⟩) (by assumption) ?_
      rotate_left
      · (intro wx hSw; (try dsimp only at hSw); go_simp; (try with_reducible rfl))
      (try simp only [Act.put, List.getElem_toArray, List.getElem_cons_zero, List.getElem_cons_succ, List.setIfInBounds_toArray, List.set_cons_zero, List.set_cons_succ])
      refine wpAnyH_take (i := 6) (oi := _) (v := ?_) rfl (by kernel_rfl) (by kernel_rfl) (by kernel_rfl) (fun _ _ _ h => h) (Or.inl ⟨by rfl, ?_⟩) (by assumption) ?_
      rotate_left
      · (intro wx hSw; (try dsimp only at hSw); go_simp; (try with_reducible rfl))
      (try simp only [Act.put, List.getElem_toArray, List.getElem_cons_zero, List.getElem_cons_succ, List.setIfInBounds_toArray, List.set_cons_zero, List.set_cons_succ])
      refine wpAnyH_take (i := 7) (oi := _) (v := ?_) rfl (by kernel_rfl) (by kernel_rfl) (by kernel_rfl) (fun _ _ _ h => h) (Or.inl ⟨by rfl, ?_⟩) (by assumption) ?_
      rotate_left
      · (intro wx hSw; (try dsimp only at hSw); go_simp; (try with_reducible rfl))
      (try simp only [Act.put, List.getElem_toArray, List.getElem_cons_zero, List.getElem_cons_succ, List.setIfInBounds_toArray, List.set_cons_zero, List.set_cons_succ])
      refine wpAnyH_take (i := 8) (oi := _) (v := ?_) rfl (by kernel_rfl) (by kernel_rfl) (by kernel_rfl) (fun _ _ _ h => h) (Or.inl ⟨by rfl, ?_⟩) (by assumption) ?_
      rotate_left
      · (intro wx hSw; (try dsimp only at hSw); go_simp; (try with_reducible rfl))
      (try simp only [Act.put, List.getElem_toArray, List.getElem_cons_zero, List.getElem_cons_succ, List.setIfInBounds_toArray, List.set_cons_zero, List.set_cons_succ])
      refine wpAnyH_take (i := 9) (oi := _) (v := ?_) rfl (by kernel_rfl) (by kernel_rfl) (by kernel_rfl) (fun _ _ _ h => h) (Or.inl ⟨by rfl, ?_⟩) (by assumption) ?_
      rotate_left
      · (intro wx hSw; (try dsimp only at hSw); go_simp; (try with_reducible rfl))
      (try simp only [Act.put, List.getElem_toArray, List.getElem_cons_zero, List.getElem_cons_succ, List.setIfInBounds_toArray, List.set_cons_zero, List.set_cons_succ])
      refine wpAnyH_take (i := 10) (oi := _) (v := ?_) rfl (by kernel_rfl) (by kernel_rfl) (by kernel_rfl) (fun _ _ _ h => h) (Or.inl ⟨by rfl, ?_⟩) (by assumption) ?_
      rotate_left
      · (intro wx hSw; (try dsimp only at hSw); go_simp; (try with_reducible rfl))
      (try simp only [Act.put, List.getElem_toArray, List.getElem_cons_zero, List.getElem_cons_succ, List.setIfInBounds_toArray, List.set_cons_zero, List.set_cons_succ])
      refine wpAnyH_take (i := 11) (oi := _) (v := ?_) rfl (by kernel_rfl) (by kernel_rfl) (by kernel_rfl) (fun _ _ _ h => h) (Or.inl ⟨by rfl, ?_⟩) (by assumption) ?_
      rotate_left
      · (intro wx hSw; (try dsimp only at hSw); go_simp; (try with_reducible rfl))
      (try simp only [Act.put, List.getElem_toArray, List.getElem_cons_zero, List.getElem_cons_succ, List.setIfInBounds_toArray, List.set_cons_zero, List.set_cons_succ])
      refine wpAnyH_done (by kernel_rfl) ?_ _
      have q4 := hHeld.2.2.2
      clear hHeld
      go_wp2_with fail
      refine (AW.out _).mono ?_
      rintro e w9 ⟨rfl, q9⟩
      go_wp2
      go_ret
      exact ⟨rfl, qE.trans (q4.trans q9)⟩
  · have hbi : (30 : Int) < (M : Int) ∨ (¬ (30 : Int) < (M : Int) ∧ (M : Int) < 2) := by omega
    clear hb sU psE t1 hps hcap
    rcases hbi with h30 | ⟨h30, h2⟩
    · go_wp2_with fail
      refine (AW.out _).mono ?_
      rintro e w9 ⟨rfl, q9⟩
      go_wp2
      go_ret
      exact ⟨rfl, qE.trans q9⟩
    · go_wp2_with fail
      refine (AW.out _).mono ?_
      rintro e w9 ⟨rfl, q9⟩
      go_wp2
      go_ret
      exact ⟨rfl, qE.trans q9⟩

set_option maxRecDepth 100000 in
theorem lifted (os : Os) (started : os.Started) (H : Type) (enc : TypeId × Value → H) :
    ReturnsInHanded {} Try.checked os 9 .any (Rows.partsPiecesSpec.pre6 enc Try.prog Try.f9 Rows.partsPiecesRow.domain false) (Rows.partsPiecesSpec.post enc Try.prog Try.f9 false true false false) := by
  refine returnsInHanded_of_change (C := Try.checked) own started (by kernel_rfl) Try.func9
    (ChangeSpec.witness6 (enc := enc) (C := Try.checked) false ⟨#[], #[.agg #[.int .u64 0, .string ByteArray.empty, .slice none 0 0], .slice none 0 0, .int .u8 0], []⟩ 8 (by kernel_rfl) (by kernel_rfl) (by kernel_rfl) (by kernel_rfl)) ?_
  intro W base args ds gs before hval0 hW hcnd _
  have hval : ∀ (j : Nat) t v, Try.f9.params[j]? = some t → args[j]? = some v → Value.okWide Try.prog W .any base t v := hval0
  have hW' := hW
  obtain ⟨p, q, hA0, hV, rfl, hfz, hnd⟩ := hW
  have hA : DataW.TrodAll enc Try.prog W 0 (fun _ => true) true Try.f9.params.toList args.toList ds p := hA0
  rw [Try.params9] at hA hval
  obtain ⟨v0, vs0, d0, ds0, p0, q0, hargs, rfl, rfl, h0, r0⟩ := trodAll_cons hA
  obtain ⟨v1, vs1, d1, ds1, p1, q1, rfl, rfl, rfl, h1, r1⟩ := trodAll_cons r0
  obtain ⟨v2, vs2, d2, ds2, p2, q2, rfl, rfl, rfl, h2, r2⟩ := trodAll_cons r1
  obtain ⟨rfl, rfl, rfl⟩ := trodAll_nil r2
  obtain rfl : args = #[v0, v1, v2] := by cases args; simp_all
  obtain ⟨rfl, rfl⟩ := trodVars_none hV
  clear hA0 hval0
  simp only [List.append_nil] at hW'
  have hlt : ∀ x ∈ p0 ++ p1 ++ p2, x.block < W.heap.size := fun x hx => by simpa using hW'.lt x (by simpa using hx)
  obtain ⟨x0, y0, rfl, u0, t0⟩ := open_upl (hval 0 40 v0 rfl rfl) h0
  obtain ⟨l1, t1, z1⟩ := open_pces (hval 1 55 v1 rfl rfl) h1
  obtain ⟨a2, rfl, -, -, w2⟩ := open_int Try.underlying5 (hval 2 5 v2 rfl rfl) h2
  refine (walk x0 y0 l1 v1 a2 W u0 t0 t1 z1 w2).mono fun e W' ⟨he, bel⟩ => ?_
  subst he
  refine ⟨_, rfl, _, _, _, [], _, [], hW', trodAll_mk1 (shut_bool Try.underlying4 _), (trodAll_cons_mk (Below.trod laid (by kernel_rfl) (of_decide_eq_true (by kernel_rfl)) h0 bel (fun x hx => hlt x (by simp [hx]))) (trodAll_cons_mk (Below.trod laid (by kernel_rfl) (of_decide_eq_true (by kernel_rfl)) h1 bel (fun x hx => hlt x (by simp [hx]))) (trodAll_cons_mk (Below.trod laid (by kernel_rfl) (of_decide_eq_true (by kernel_rfl)) h2 bel (fun x hx => hlt x (by simp [hx]))) trodAll_mk0))), rfl, Below.frame bel _, fun h => by cases h⟩

theorem over : Rows.partsPiecesRow.holds Try.pinned (OpenSpec.ofChange Rows.partsPiecesSpec) :=
  OpenClaim.holds_of_wide 9 Try.f9 rfl rfl rfl rfl rfl rfl rfl ⟨rfl, rfl, rfl, rfl, rfl⟩ rfl rfl rfl rfl rfl (by kernel_rfl) Try.func9 (by kernel_rfl)
    (of_decide_eq_true (by kernel_rfl)) (by unfold Func.isWrapper; first | (rw [if_pos (by decide +kernel)]; kernel_rfl) | (rw [if_neg (by decide +kernel)]; exact ⟨rfl, rfl⟩))
    (fun os started H enc _ => lifted os started H enc)

theorem proved : Rows.PartsPiecesSaid := over
#print axioms proved
end Go.Proofs.Ytlahccmlnbdekaa.partsPieces
