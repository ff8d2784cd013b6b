/-
  Proved: whatever upload and pieces PartsWholes is called with, it returns true and leaves what it was given as it was. No condition.
-/
import Derived.Test.YtlahccmlnbdekaaUFewL
import Derived.Test.YtlahccmlnbdekaaUAwk
import Derived.Test.YtlahccmlnbdekaaURWhole
namespace Go.Proofs.Ytlahccmlnbdekaa.partsWholes
open Go.ChangeShapes Go.WideShapes Go.ChangeAt Go.RowKit
open Go.ChangeMaps (open_string shut_string)
set_option linter.unusedVariables false
set_option linter.unusedSimpArgs false

theorem addr0 (a : Addr) : a.add 0 = a := by cases a; simp [Addr.add]
/-- Parts lie elsewhere than in an upload's box, and stay where it is written. -/
theorem Prts.boxedU {w w' : World} {B : Nat} {v : Value} {l : List Prt} {A : Option Addr} {n c : Nat} {s : ByteArray} {i : Int} {t : TypeId} (h : Prts w w.heap.size v l)
    (hb : Bx w B t #[.int .u64 i, .string s, .slice A n c]) (hk : ∀ j, j ≠ B → w'.heap[j]? = w.heap[j]?) (hs : w.heap.size ≤ w'.heap.size) : Prts w' w'.heap.size v l := by
  obtain ⟨A', c', e, e0, ez, eo, f⟩ := h
  refine ⟨A', c', e, e0, ez, eo, fun k hk' => ?_⟩
  obtain ⟨a, e1, e2, e3⟩ := f k hk'
  refine ⟨a, e1, by omega, ?_⟩
  have hne : (a.add (k * 2)).block ≠ B := by
    obtain ⟨c0, c1⟩ := e3
    generalize a.add (k * 2) = p at c0 c1
    intro hp
    obtain ⟨b, o, x⟩ := p
    simp only at hp c1
    subst hp
    rw [hb.cell] at c1
    match o with
    | 0 =>
      cases x with
      | none => rw [hb.cell] at c0; simp at c0
      | some x => simp [World.cell?, show w.heap[b]? = _ from hb] at c0
    | 1 => simp at c1
    | o + 2 => simp at c1
  exact ⟨(World.cell?_of_block (hk _ hne)).trans e3.1, (World.cell?_of_block (a := ⟨(a.add (k * 2)).block, (a.add (k * 2)).off + 1, none⟩) (hk _ hne)).trans e3.2⟩
/-- An upload in a box of its own, as a slice. -/
theorem upls_box (w : World) (u : Upl) (v : Value) (h : okU u) (t : Prts w w.heap.size v u.L) : Upls (w.alloc (.cells #[.int .u64 (u.id : Nat), .string u.key, v] 40)) (w.alloc (.cells #[.int .u64 (u.id : Nat), .string u.key, v] 40)).heap.size (.slice (some ⟨w.heap.size, 0, none⟩) 1 1) [u] := by
  refine ⟨_, _, rfl, Nat.le_refl _, (by simp), fun x hx => ?_, fun k hk => ?_⟩
  · obtain rfl : x = u := by simpa using hx
    exact h
  · have k0 : k = 0 := by simpa using hk
    subst k0
    refine ⟨_, rfl, by simp, ?_, ?_, v, ?_, ?_⟩
    · simp [Addr.add]
    · simp [Addr.add]
    · simp [Addr.add]
    · exact t.on ((Q.refl w).alloc _)
set_option maxHeartbeats 8000000 in
set_option maxRecDepth 100000 in
theorem walk (q : Upl) (y : Value) (l : List Pce) (z : Value) (w : World) (uq : okU q) (tq : Prts w w.heap.size y q.L) (t1 : Pces w w.heap.size z l) (z1 : l.length ≤ maxLen) :
    Calls Try.prog 5 #[upl q y, z] w fun e w' => e = .returned (.bool true) ∧ Q w w' := by
  obtain ⟨A3, n3, c3, rfl⟩ : ∃ A n c, y = .slice A n c := by obtain ⟨A, c, e⟩ := tq.form; exact ⟨A, _, c, e⟩
  obtain ⟨id, qk, qL⟩ := q
  have q00 := (Q.refl w).alloc (.cells #[.int .u64 (id : Nat), .string qk, .slice A3 n3 c3] 40)
  have q01 := q00.alloc (.cells #[.int .u64 (id : Nat), .string qk, .slice A3 n3 c3] 40)
  have ONE : Upls ((w.alloc (.cells #[.int .u64 (id : Nat), .string qk, .slice A3 n3 c3] 40)).alloc (.cells #[.int .u64 (id : Nat), .string qk, .slice A3 n3 c3] 40)) ((w.alloc (.cells #[.int .u64 (id : Nat), .string qk, .slice A3 n3 c3] 40)).alloc (.cells #[.int .u64 (id : Nat), .string qk, .slice A3 n3 c3] 40)).heap.size (.slice (some ⟨w.heap.size + 1, 0, none⟩) 1 1) [⟨id, qk, qL⟩] := by
    have := upls_box (w.alloc (.cells #[.int .u64 (id : Nat), .string qk, .slice A3 n3 c3] 40)) ⟨id, qk, qL⟩ (.slice A3 n3 c3) uq (tq.on q00)
    simpa only [World.size_alloc] using this
  have FL := Lib.hid (fewUp_any _ _ _ (by simp [maxLen]) ONE)
  have FE : fewL [⟨id, qk, qL⟩] = [fewU ⟨id, qk, qL⟩] := rfl
  rw [FE] at FL
  have sU : smU (fewU ⟨id, qk, qL⟩) := (fewL_sm [⟨id, qk, qL⟩]).2 _ (by rw [FE]; simp)
  obtain ⟨U, hU⟩ : ∃ U, U = fewU ⟨id, qk, qL⟩ := ⟨_, rfl⟩
  rw [← hU] at FL sU
  simp only [upl]
  go_enter Try.func5, Try.ntmps5
  go_wp2_with fail
  refine (FL.out).mono ?_
  rintro e w1 ⟨u1, rfl, h1, q1⟩
  obtain ⟨a, c', rfl, ha, A2, c2, hps, hat⟩ := h1.pick 0 (by simp)
  simp only [List.getElem_cons_zero, Nat.zero_mul, List.length_singleton, addr0] at hps hat ⊢
  have bx := (Bx.new w 40 #[.int .u64 (id : Nat), .string qk, .slice A3 n3 c3]).on (((Q.refl _).alloc (.cells #[.int .u64 (id : Nat), .string qk, .slice A3 n3 c3] 40)).trans q1)
  have qA := q01.trans q1
  obtain ⟨g0, g1, g2⟩ := hat w1 (Q.refl w1)
  have x0 := bx.cell 0
  have x1 := bx.cell 1
  have x2 := bx.cell 2
  have y0 := bx.frozen 0
  have y1 := bx.frozen 1
  have y2 := bx.frozen 2
  simp only [List.getElem?_toArray, List.getElem?_cons_zero, List.getElem?_cons_succ] at x0 x1 x2
  clear hU
  obtain ⟨ui, uk, UL⟩ := U
  simp only at hps g0 g1 g2 ⊢
  obtain ⟨n2, hn2⟩ : ∃ n, UL.length = n := ⟨_, rfl⟩
  rw [hn2] at hps g2
  obtain ⟨A7, c7, rfl⟩ := t1.form
  obtain ⟨M, hM⟩ : ∃ n, l.length = n := ⟨_, rfl⟩
  rw [hM] at t1 z1 ⊢
  have bxE := ((bx.set 0 (.int .u64 (ui : Nat))).set 1 (.string uk)).set 2 (.slice A2 n2 c2)
  have hk : ∀ j, j ≠ w.heap.size → (((w1.setCell ⟨w.heap.size, 0, none⟩ (.int .u64 (ui : Nat))).setCell ⟨w.heap.size, 1, none⟩ (.string uk)).setCell ⟨w.heap.size, 2, none⟩ (.slice A2 n2 c2)).heap[j]? = w1.heap[j]? := fun j hj => ((heap_set _ _ _ _ hj).trans (heap_set _ _ _ _ hj)).trans (heap_set _ _ _ _ hj)
  have psE := Prts.boxedU hps bx hk (by simp)
  have qE := ((qA.set (Nat.le_refl w.heap.size) (k := 0) (.int .u64 (ui : Nat))).set (Nat.le_refl w.heap.size) (k := 1) (.string uk)).set (Nat.le_refl w.heap.size) (k := 2) (.slice A2 n2 c2)
  clear hk FL ONE FE uq tq q00 q01 hat h1 ha q1 qA bx
  go_upto_region 2 with fail
  generalize ((w1.setCell ⟨w.heap.size, 0, none⟩ (.int .u64 (ui : Nat))).setCell ⟨w.heap.size, 1, none⟩ (.string uk)).setCell ⟨w.heap.size, 2, none⟩ (.slice A2 n2 c2) = wE at bxE psE qE ⊢
  simp only [List.setIfInBounds_toArray, List.set_cons_zero, List.set_cons_succ] at bxE
  clear x0 x1 x2 y0 y1 y2 g0 g1 g2
  have AW := Lib.hid fun d => awakeU_any d
  unfold maxLen at z1
  have hcap : M ≤ c7 := by
    obtain ⟨A', c', e', e0, -⟩ := t1
    injection e' with e1 e2 e3
    omega
  have tz := (t1.on qE)
  have hBx : ∀ b, Q wE b → (fun W => W.cell? ⟨w.heap.size, 0, none⟩ = some (.int .u64 (ui : Nat)) ∧ W.cell? ⟨w.heap.size, 1, none⟩ = some (.string uk) ∧ W.cell? ⟨w.heap.size, 2, none⟩ = some (.slice A2 n2 c2) ∧ Q wE W) b := fun b q => by
    have := bxE.on q
    exact ⟨this.cell 0, this.cell 1, this.cell 2, q⟩
  have BE := Lib.hid hBx
  clear hBx
  by_cases hb : 40 < M
  · have n40 : (40 : Int) < (M : Int) := by omega
    have hkc : 40 ≤ c7 := by omega
    have hkM : 40 ≤ M := by omega
    obtain ⟨a7, rfl⟩ : ∃ a, A7 = some a := by
      obtain ⟨A', c', e', e0, ez, eo, f⟩ := t1
      injection e' with e1 e2 e3
      obtain ⟨a, e, -⟩ := f 0 (by omega)
      exact ⟨a, by rw [e1]; exact e⟩
    obtain ⟨s, t, e, hW⟩ := wholeC_ex ⟨ui, uk, UL⟩ (l.take 40)
    have tz' : Pces wE wE.heap.size (.slice (some a7) 40 c7) (l.take 40) := tz.cutTake (by omega)
    have hlen : (l.take 40).length ≤ 1000 := by rw [List.length_take]; omega
    have C1 : Hid (∀ d, (fun W => W.cell? ⟨w.heap.size, 0, none⟩ = some (.int .u64 (ui : Nat)) ∧ W.cell? ⟨w.heap.size, 1, none⟩ = some (.string uk) ∧ W.cell? ⟨w.heap.size, 2, none⟩ = some (.slice A2 n2 c2) ∧ Q wE W) d → Calls Try.prog 28 #[.agg #[.int .u64 (ui : Nat), .string uk, .slice A2 n2 c2], .slice (some a7) 40 c7] d fun e' w' => e' = .returned (.tuple #[.string (mk s), .string (mk t), .int .i64 (e : Nat)]) ∧ (fun W => W.cell? ⟨w.heap.size, 0, none⟩ = some (.int .u64 (ui : Nat)) ∧ W.cell? ⟨w.heap.size, 1, none⟩ = some (.string uk) ∧ W.cell? ⟨w.heap.size, 2, none⟩ = some (.slice A2 n2 c2) ∧ Q wE W) w') := Lib.hid fun d hd => by
      refine (whole_any ⟨ui, uk, UL⟩ (.slice A2 n2 c2) _ _ d s t e hW sU hlen (psE.on hd.2.2.2) (tz'.on hd.2.2.2)).mono ?_
      rintro e' w' ⟨h1, h2⟩
      exact ⟨h1, BE.out _ (hd.2.2.2.trans h2)⟩
    have C2 : Hid (∀ d, (fun W => W.cell? ⟨w.heap.size, 0, none⟩ = some (.int .u64 (ui : Nat)) ∧ W.cell? ⟨w.heap.size, 1, none⟩ = some (.string uk) ∧ W.cell? ⟨w.heap.size, 2, none⟩ = some (.slice A2 n2 c2) ∧ Q wE W) d → Calls Try.prog 29 #[.agg #[.int .u64 (ui : Nat), .string uk, .slice A2 n2 c2], .slice (some a7) 40 c7] d fun e' w' => e' = .returned (.tuple #[.string (mk s), .string (mk t), .int .i64 (e : Nat)]) ∧ (fun W => W.cell? ⟨w.heap.size, 0, none⟩ = some (.int .u64 (ui : Nat)) ∧ W.cell? ⟨w.heap.size, 1, none⟩ = some (.string uk) ∧ W.cell? ⟨w.heap.size, 2, none⟩ = some (.slice A2 n2 c2) ∧ Q wE W) w') := Lib.hid fun d hd => by
      refine (rwhole_any ⟨ui, uk, UL⟩ (.slice A2 n2 c2) _ _ d s t e hW sU hlen (psE.on hd.2.2.2) (tz'.on hd.2.2.2)).mono ?_
      rintro e' w' ⟨h1, h2⟩
      exact ⟨h1, BE.out _ (hd.2.2.2.trans h2)⟩
    obtain ⟨X, hX⟩ : ∃ X, X = mk s := ⟨_, rfl⟩
    obtain ⟨Y, hY⟩ : ∃ X, X = mk t := ⟨_, rfl⟩
    rw [← hX, ← hY] at C1 C2
    have heX : (X.toList == X.toList) = true := by simp
    have heY : (Y.toList == Y.toList) = true := by simp
    clear hX hY hW tz' hlen psE bxE t1 sU hps
    obtain ⟨b0, b1, b2, -⟩ := BE.out _ (Q.refl wE)
    go_wp2_with fail
    refine (C1.out _ (BE.out _ (Q.refl _))).mono ?_
    rintro e w2 ⟨rfl, -, -, -, q2⟩
    clear b0 b1 b2
    obtain ⟨b0, b1, b2, -⟩ := BE.out _ q2
    go_wp2_with fail
    refine (C2.out _ (BE.out _ q2)).mono ?_
    rintro e w3 ⟨rfl, -, -, -, q3⟩
    clear b0 b1 b2
    go_wp2_with fail
    refine (AW.out _).mono ?_
    rintro e w9 ⟨rfl, q9⟩
    go_wp2
    go_ret
    exact ⟨rfl, qE.trans (q3.trans q9)⟩
  · have n40 : ¬ (40 : Int) < (M : Int) := by omega
    obtain ⟨s, t, e, hW⟩ := wholeC_ex ⟨ui, uk, UL⟩ (l)
    have tz' : Pces wE wE.heap.size (.slice A7 M c7) (l) := tz
    have hlen : (l).length ≤ 1000 := by omega
    have C1 : Hid (∀ d, (fun W => W.cell? ⟨w.heap.size, 0, none⟩ = some (.int .u64 (ui : Nat)) ∧ W.cell? ⟨w.heap.size, 1, none⟩ = some (.string uk) ∧ W.cell? ⟨w.heap.size, 2, none⟩ = some (.slice A2 n2 c2) ∧ Q wE W) d → Calls Try.prog 28 #[.agg #[.int .u64 (ui : Nat), .string uk, .slice A2 n2 c2], .slice A7 M c7] d fun e' w' => e' = .returned (.tuple #[.string (mk s), .string (mk t), .int .i64 (e : Nat)]) ∧ (fun W => W.cell? ⟨w.heap.size, 0, none⟩ = some (.int .u64 (ui : Nat)) ∧ W.cell? ⟨w.heap.size, 1, none⟩ = some (.string uk) ∧ W.cell? ⟨w.heap.size, 2, none⟩ = some (.slice A2 n2 c2) ∧ Q wE W) w') := Lib.hid fun d hd => by
      refine (whole_any ⟨ui, uk, UL⟩ (.slice A2 n2 c2) _ _ d s t e hW sU hlen (psE.on hd.2.2.2) (tz'.on hd.2.2.2)).mono ?_
      rintro e' w' ⟨h1, h2⟩
      exact ⟨h1, BE.out _ (hd.2.2.2.trans h2)⟩
    have C2 : Hid (∀ d, (fun W => W.cell? ⟨w.heap.size, 0, none⟩ = some (.int .u64 (ui : Nat)) ∧ W.cell? ⟨w.heap.size, 1, none⟩ = some (.string uk) ∧ W.cell? ⟨w.heap.size, 2, none⟩ = some (.slice A2 n2 c2) ∧ Q wE W) d → Calls Try.prog 29 #[.agg #[.int .u64 (ui : Nat), .string uk, .slice A2 n2 c2], .slice A7 M c7] d fun e' w' => e' = .returned (.tuple #[.string (mk s), .string (mk t), .int .i64 (e : Nat)]) ∧ (fun W => W.cell? ⟨w.heap.size, 0, none⟩ = some (.int .u64 (ui : Nat)) ∧ W.cell? ⟨w.heap.size, 1, none⟩ = some (.string uk) ∧ W.cell? ⟨w.heap.size, 2, none⟩ = some (.slice A2 n2 c2) ∧ Q wE W) w') := Lib.hid fun d hd => by
      refine (rwhole_any ⟨ui, uk, UL⟩ (.slice A2 n2 c2) _ _ d s t e hW sU hlen (psE.on hd.2.2.2) (tz'.on hd.2.2.2)).mono ?_
      rintro e' w' ⟨h1, h2⟩
      exact ⟨h1, BE.out _ (hd.2.2.2.trans h2)⟩
    obtain ⟨X, hX⟩ : ∃ X, X = mk s := ⟨_, rfl⟩
    obtain ⟨Y, hY⟩ : ∃ X, X = mk t := ⟨_, rfl⟩
    rw [← hX, ← hY] at C1 C2
    have heX : (X.toList == X.toList) = true := by simp
    have heY : (Y.toList == Y.toList) = true := by simp
    clear hX hY hW tz' hlen psE bxE t1 sU hps
    obtain ⟨b0, b1, b2, -⟩ := BE.out _ (Q.refl wE)
    go_wp2_with fail
    refine (C1.out _ (BE.out _ (Q.refl _))).mono ?_
    rintro e w2 ⟨rfl, -, -, -, q2⟩
    clear b0 b1 b2
    obtain ⟨b0, b1, b2, -⟩ := BE.out _ q2
    go_wp2_with fail
    refine (C2.out _ (BE.out _ q2)).mono ?_
    rintro e w3 ⟨rfl, -, -, -, q3⟩
    clear b0 b1 b2
    go_wp2_with fail
    refine (AW.out _).mono ?_
    rintro e w9 ⟨rfl, q9⟩
    go_wp2
    go_ret
    exact ⟨rfl, qE.trans (q3.trans q9)⟩

set_option maxRecDepth 100000 in
theorem lifted (os : Os) (started : os.Started) (H : Type) (enc : TypeId × Value → H) :
    ReturnsInHanded {} Try.checked os 5 .any (Rows.partsWholesSpec.pre6 enc Try.prog Try.f5 Rows.partsWholesRow.domain false) (Rows.partsWholesSpec.post enc Try.prog Try.f5 false true false false) := by
  refine returnsInHanded_of_change (C := Try.checked) own started (by kernel_rfl) Try.func5
    (ChangeSpec.witness6 (enc := enc) (C := Try.checked) false ⟨#[], #[.agg #[.int .u64 0, .string ByteArray.empty, .slice none 0 0], .slice none 0 0], []⟩ 8 (by kernel_rfl) (by kernel_rfl) (by kernel_rfl) (by kernel_rfl)) ?_
  intro W base args ds gs before hval0 hW hcnd _
  have hval : ∀ (j : Nat) t v, Try.f5.params[j]? = some t → args[j]? = some v → Value.okWide Try.prog W .any base t v := hval0
  have hW' := hW
  obtain ⟨p, q, hA0, hV, rfl, hfz, hnd⟩ := hW
  have hA : DataW.TrodAll enc Try.prog W 0 (fun _ => true) true Try.f5.params.toList args.toList ds p := hA0
  rw [Try.params5] at hA hval
  obtain ⟨v0, vs0, d0, ds0, p0, q0, hargs, rfl, rfl, h0, r0⟩ := trodAll_cons hA
  obtain ⟨v1, vs1, d1, ds1, p1, q1, rfl, rfl, rfl, h1, r1⟩ := trodAll_cons r0
  obtain ⟨rfl, rfl, rfl⟩ := trodAll_nil r1
  obtain rfl : args = #[v0, v1] := by cases args; simp_all
  obtain ⟨rfl, rfl⟩ := trodVars_none hV
  clear hA0 hval0
  simp only [List.append_nil] at hW'
  have hlt : ∀ x ∈ p0 ++ p1, x.block < W.heap.size := fun x hx => by simpa using hW'.lt x (by simpa using hx)
  obtain ⟨x0, y0, rfl, u0, t0⟩ := open_upl (hval 0 40 v0 rfl rfl) h0
  obtain ⟨l1, t1, z1⟩ := open_pces (hval 1 55 v1 rfl rfl) h1
  refine (walk x0 y0 l1 v1 W u0 t0 t1 z1).mono fun e W' ⟨he, bel⟩ => ?_
  subst he
  refine ⟨_, rfl, _, _, _, [], _, [], hW', trodAll_mk1 (shut_bool Try.underlying4 _), (trodAll_cons_mk (Below.trod laid (by kernel_rfl) (of_decide_eq_true (by kernel_rfl)) h0 bel (fun x hx => hlt x (by simp [hx]))) (trodAll_cons_mk (Below.trod laid (by kernel_rfl) (of_decide_eq_true (by kernel_rfl)) h1 bel (fun x hx => hlt x (by simp [hx]))) trodAll_mk0)), rfl, Below.frame bel _, fun h => by cases h⟩

theorem over : Rows.partsWholesRow.holds Try.pinned (OpenSpec.ofChange Rows.partsWholesSpec) :=
  OpenClaim.holds_of_wide 5 Try.f5 rfl rfl rfl rfl rfl rfl rfl ⟨rfl, rfl, rfl, rfl, rfl⟩ rfl rfl rfl rfl rfl (by kernel_rfl) Try.func5 (by kernel_rfl)
    (of_decide_eq_true (by kernel_rfl)) (by unfold Func.isWrapper; first | (rw [if_pos (by decide +kernel)]; kernel_rfl) | (rw [if_neg (by decide +kernel)]; exact ⟨rfl, rfl⟩))
    (fun os started H enc _ => lifted os started H enc)

theorem proved : Rows.PartsWholesSaid := over
#print axioms proved
end Go.Proofs.Ytlahccmlnbdekaa.partsWholes
