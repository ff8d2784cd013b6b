/-
  Contracts of drafted, Of and Build at the inputs of the chapter's examples.
-/
import Derived.Test.YtbilnomafloopaaGreatIAwk3
namespace Go.Proofs.YtbilnomafloopaaGreat
set_option maxRecDepth 100000
open Go.ChangeShapes Go.WideShapes Go.ChangeAt Go.RowKit
set_option linter.unusedVariables false
set_option linter.unusedSimpArgs false

theorem draft_new (w : World) : Bx ((((((w.alloc (.cells #[.int .i64 0, .slice none 0 0] 24)).alloc (.map #[] 0)).alloc (.map #[] 0)).alloc (.map #[] 0)).alloc (.map #[] 0)).alloc (.cells #[.int .i64 0, .map (some (w.heap.size + 1)), .map (some (w.heap.size + 1 + 1)), .map (some (w.heap.size + 1 + 1 + 1)), .map (some (w.heap.size + 1 + 1 + 1 + 1))] 138)) (w.heap.size + 1 + 1 + 1 + 1 + 1) 138 #[.int .i64 0, .map (some (w.heap.size + 1)), .map (some (w.heap.size + 1 + 1)), .map (some (w.heap.size + 1 + 1 + 1)), .map (some (w.heap.size + 1 + 1 + 1 + 1))] ∧ ((((((w.alloc (.cells #[.int .i64 0, .slice none 0 0] 24)).alloc (.map #[] 0)).alloc (.map #[] 0)).alloc (.map #[] 0)).alloc (.map #[] 0)).alloc (.cells #[.int .i64 0, .map (some (w.heap.size + 1)), .map (some (w.heap.size + 1 + 1)), .map (some (w.heap.size + 1 + 1 + 1)), .map (some (w.heap.size + 1 + 1 + 1 + 1))] 138)).heap[w.heap.size + 1]? = some (.map #[] 0) ∧ ((((((w.alloc (.cells #[.int .i64 0, .slice none 0 0] 24)).alloc (.map #[] 0)).alloc (.map #[] 0)).alloc (.map #[] 0)).alloc (.map #[] 0)).alloc (.cells #[.int .i64 0, .map (some (w.heap.size + 1)), .map (some (w.heap.size + 1 + 1)), .map (some (w.heap.size + 1 + 1 + 1)), .map (some (w.heap.size + 1 + 1 + 1 + 1))] 138)).heap[w.heap.size + 1 + 1]? = some (.map #[] 0) ∧ ((((((w.alloc (.cells #[.int .i64 0, .slice none 0 0] 24)).alloc (.map #[] 0)).alloc (.map #[] 0)).alloc (.map #[] 0)).alloc (.map #[] 0)).alloc (.cells #[.int .i64 0, .map (some (w.heap.size + 1)), .map (some (w.heap.size + 1 + 1)), .map (some (w.heap.size + 1 + 1 + 1)), .map (some (w.heap.size + 1 + 1 + 1 + 1))] 138)).heap[w.heap.size + 1 + 1 + 1]? = some (.map #[] 0) ∧
    Bx ((((((w.alloc (.cells #[.int .i64 0, .slice none 0 0] 24)).alloc (.map #[] 0)).alloc (.map #[] 0)).alloc (.map #[] 0)).alloc (.map #[] 0)).alloc (.cells #[.int .i64 0, .map (some (w.heap.size + 1)), .map (some (w.heap.size + 1 + 1)), .map (some (w.heap.size + 1 + 1 + 1)), .map (some (w.heap.size + 1 + 1 + 1 + 1))] 138)) w.heap.size 24 #[.int .i64 0, .slice none 0 0] ∧ Q w ((((((w.alloc (.cells #[.int .i64 0, .slice none 0 0] 24)).alloc (.map #[] 0)).alloc (.map #[] 0)).alloc (.map #[] 0)).alloc (.map #[] 0)).alloc (.cells #[.int .i64 0, .map (some (w.heap.size + 1)), .map (some (w.heap.size + 1 + 1)), .map (some (w.heap.size + 1 + 1 + 1)), .map (some (w.heap.size + 1 + 1 + 1 + 1))] 138)) := by
  have a1 := heap_new (w.alloc (.cells #[.int .i64 0, .slice none 0 0] 24)) (.map #[] 0)
  have a2 := heap_new ((w.alloc (.cells #[.int .i64 0, .slice none 0 0] 24)).alloc (.map #[] 0)) (.map #[] 0)
  have a3 := heap_new (((w.alloc (.cells #[.int .i64 0, .slice none 0 0] 24)).alloc (.map #[] 0)).alloc (.map #[] 0)) (.map #[] 0)
  have a5 := Bx.new (((((w.alloc (.cells #[.int .i64 0, .slice none 0 0] 24)).alloc (.map #[] 0)).alloc (.map #[] 0)).alloc (.map #[] 0)).alloc (.map #[] 0)) 138 #[.int .i64 0, .map (some (w.heap.size + 1)), .map (some (w.heap.size + 1 + 1)), .map (some (w.heap.size + 1 + 1 + 1)), .map (some (w.heap.size + 1 + 1 + 1 + 1))]
  simp only [World.size_alloc] at a1 a2 a3 a5
  have b := Bx.new w 24 #[.int .i64 0, .slice none 0 0]
  refine ⟨a5, ?_, ?_, ?_, ((((b.alloc _).alloc _).alloc _).alloc _).alloc _, ((((((Q.refl w).alloc _).alloc _).alloc _).alloc _).alloc _).alloc _⟩
  · exact (Below.block ((((Q.refl _).alloc _).alloc _).alloc _ |>.alloc _) _ (by simp)).trans a1
  · exact (Below.block (((Q.refl _).alloc _).alloc _ |>.alloc _) _ (by simp)).trans a2
  · exact (Below.block ((Q.refl _).alloc _ |>.alloc _) _ (by simp)).trans a3
set_option maxHeartbeats 4000000 in
theorem drafted0_any (l : List Itm) (v : Value) (w : World) (hl : l.length ≤ 10) (hx : ∀ x ∈ l, x = itT) (ht : Itms w w.heap.size v l) :
    Calls Tryz.prog 36 #[v] w fun e w' => e = .returned (.agg #[.int .i64 0, .slice none 0 0]) ∧ Q w w' := by
  obtain ⟨A, c, rfl, -, -, -, hcells⟩ := ht
  have HC := Lib.hid hcells
  have HX := Lib.hid hx
  have HT := Lib.hid take0_any
  have hd := Lib.hid depot0_any
  obtain ⟨h0, h1, h2, h3, h4, q0⟩ := draft_new w
  clear hcells hx
  have hmm := @run_makeMap Tryz.prog
  obtain ⟨P, hP⟩ : ∃ z, z = w.heap.size + 1 + 1 + 1 + 1 + 1 := ⟨_, rfl⟩
  obtain ⟨pa, hpa⟩ : ∃ z, z = w.heap.size + 1 := ⟨_, rfl⟩
  obtain ⟨pb, hpb⟩ : ∃ z, z = w.heap.size + 1 + 1 := ⟨_, rfl⟩
  obtain ⟨pc, hpc⟩ : ∃ z, z = w.heap.size + 1 + 1 + 1 := ⟨_, rfl⟩
  obtain ⟨pd, hpd⟩ : ∃ z, z = w.heap.size + 1 + 1 + 1 + 1 := ⟨_, rfl⟩
  obtain ⟨W0, hW0⟩ : ∃ z, z = ((((((w.alloc (.cells #[.int .i64 0, .slice none 0 0] 24)).alloc (.map #[] 0)).alloc (.map #[] 0)).alloc (.map #[] 0)).alloc (.map #[] 0)).alloc (.cells #[.int .i64 0, .map (some (w.heap.size + 1)), .map (some (w.heap.size + 1 + 1)), .map (some (w.heap.size + 1 + 1 + 1)), .map (some (w.heap.size + 1 + 1 + 1 + 1))] 138)) := ⟨_, rfl⟩
  rw [← hW0] at h0 h1 h2 h3 h4 q0
  rw [← hP, ← hpd, ← hpc, ← hpb, ← hpa] at h0
  rw [← hpa] at h1
  rw [← hpb] at h2
  rw [← hpc] at h3
  have hPw : w.heap.size ≤ P := by omega
  have hPn : w.heap.size ≠ P ∧ pa ≠ P ∧ pb ≠ P ∧ pc ≠ P := by omega
  have G0 := Lib.hid h0
  have G1 := Lib.hid h1
  have G2 := Lib.hid h2
  have G3 := Lib.hid h3
  have G4 := Lib.hid h4
  have GQ := Lib.hid q0
  clear h0 h1 h2 h3 h4 q0
  go_enter Tryz.func36, Tryz.ntmps36
  go_wp2_with fail
  rw [← hW0, ← hP, ← hpd, ← hpc, ← hpb, ← hpa]
  clear hW0 hP hpa hpb hpc hpd hmm
  go_loopw [13] (fun I wr => ∃ i : Nat, i ≤ l.length ∧ I = .int .i64 i ∧ Bx wr P 138 #[.int .i64 0, .map (some pa), .map (some pb), .map (some pc), .map (some pd)] ∧ wr.heap[pa]? = some (.map #[] 0) ∧ wr.heap[pb]? = some (.map #[] 0) ∧ wr.heap[pc]? = some (.map #[] 0) ∧ Bx wr w.heap.size 24 #[.int .i64 0, .slice none 0 0] ∧ Q w wr) (fun I _ => l.length - (intOf I).toNat)
  case atStart => exact ⟨0, Nat.zero_le _, rfl, G0.out, G1.out, G2.out, G3.out, G4.out, GQ.out⟩
  case round =>
    obtain ⟨i, hil, rfl, h0, h1, h2, h3, h4, q⟩ := hrel
    clear G0 G1 G2 G3 G4 GQ
    by_cases hlt : i < l.length
    · obtain ⟨a, hAa, ha, hat⟩ := HC.out i hlt
      subst hAa
      rw [HX.out _ (List.getElem_mem hlt)] at hat
      obtain ⟨c0, c1⟩ := hat.keep (by rw [add_block]; exact ha) fun p hp => q.cell hp
      have hilt : (i : Int) < (l.length : Int) := by omega
      have q1 := (Q.refl wr).alloc (.cells #[.string ⟨#[116]⟩, .string valT] 68)
      have C := Lib.hid (HT.out _ P pa pb pc pd (h0.on q1))
      have k1 := (q1.block pa (lt_of_block h1)).trans h1
      have k2 := (q1.block pb (lt_of_block h2)).trans h2
      have k3 := (q1.block pc (lt_of_block h3)).trans h3
      have k4 := h4.on q1
      have q2 := q.trans q1
      have e0 : wr.cell? (a.add (i * 2)) = some (.string ⟨#[116]⟩) := c0
      have e1 : wr.cell? ⟨(a.add (i * 2)).block, (a.add (i * 2)).off + 1, none⟩ = some (.string valT) := c1
      clear h0 h1 h2 h3 h4 q q1 c0 c1 hat
      go_wp2_with fail
      refine (C.out).mono ?_
      rintro e w1 ⟨rfl, b1, g1⟩
      go_wp2_with fail
      go_roundw
      case rel => exact ⟨i + 1, by omega, by go_num, b1, (g1.block pa (lt_of_block k1) (by simp; omega)).trans k1, (g1.block pb (lt_of_block k2) (by simp; omega)).trans k2, (g1.block pc (lt_of_block k3) (by simp; omega)).trans k3, g1.bx k4 hPn.1, g1.q q2 hPw⟩
      case measure => simp [intOf]; omega
    · have h5 : ¬ (i : Int) < (l.length : Int) := by omega
      have C := Lib.hid (hd.out wr P pa pb pc pd h0 h1 h2 h3)
      clear h0 h1 h2 h3
      go_wp2_with fail
      refine (C.out).mono ?_
      rintro e w1 ⟨rfl, q1⟩
      have bn := h4.on q1
      have f0 := bn.frozen 0
      have f1 := bn.frozen 1
      have z0 := bn.cell 0
      have z1 := bn.cell 1
      simp only [List.getElem?_toArray, List.getElem?_cons_zero, List.getElem?_cons_succ] at z0 z1
      go_wp2_with fail
      have bs := (bn.set 0 (.int .i64 0)).set 1 (.slice none 0 0)
      have k0 := bs.cell 0
      have k1 := bs.cell 1
      (try simp only [Exit.inBlock, Exit.then])
      refine bodyPost_ret (v := .agg #[.int .i64 0, .slice none 0 0]) ?_ rfl ⟨rfl, Q.set (Q.set (q.trans q1) (Nat.le_refl _) _) (Nat.le_refl _) _⟩
      simp at k0 k1
      simp [results, Tryz.results36, go_sem, k0, k1]
theorem txts_one (w : World) (s : ByteArray) : Txts (w.alloc (.cells #[.string s] 9)) (w.alloc (.cells #[.string s] 9)).heap.size (.slice (some ⟨w.heap.size, 0, none⟩) 1 1) [s] := by
  refine ⟨some ⟨w.heap.size, 0, none⟩, 1, rfl, fun k hk => ⟨⟨w.heap.size, 0, none⟩, rfl, by simp, ?_⟩⟩
  have : k = 0 := by simpa using hk
  subst this
  simp [Addr.add]
theorem own_one (w : World) (base : Nat) (x : Itm) (hb : base ≤ w.heap.size) : OwnI base (w.alloc (.cells (icl x).toArray 68)) (.slice (some ⟨w.heap.size, 0, none⟩) 1 1) [x] := by
  refine ⟨by simp [icl], .inr ⟨w.heap.size, 1, (icl x).toArray, rfl, hb, heap_new _ _, Nat.le_refl _, by unfold maxLen; omega, by simp [icl], by simp [icl]⟩⟩
set_option maxHeartbeats 4000000 in
theorem of0_any (w : World) : Calls Tryz.prog 12 #[.agg #[.int .i64 0, .slice none 0 0]] w fun e w' => ∃ v', e = .returned (.tuple #[v', .int .i64 0]) ∧ OwnI w.heap.size w' v' [itT] ∧ Q w w' := by
  have C1 := Lib.hid check0_any
  have C2 := Lib.hid (fun x => num_any 0 x (by omega))
  have C3 := Lib.hid (fun x v h => laid_any ⟨#[116]⟩ [mk (oct 0 8)] v x (by kernel_rfl) (fun s hs => by rw [List.mem_singleton] at hs; rw [hs]; have := oct_size; omega) (by simp) h)
  have C4 := Lib.hid (fun x v h => sortItems_any [itT] v w.heap.size x h (by simp))
  have n0 := Bx.new w 24 #[.int .i64 0, .slice none 0 0]
  have q0 := (Q.refl w).alloc (.cells #[.int .i64 0, .slice none 0 0] 24)
  have HI : Hid (itT = ⟨⟨#[116]⟩, mk (lst [mk (oct 0 8)])⟩) := Lib.hid rfl
  rw [itm] at C3
  simp only at C3
  obtain ⟨V, hV⟩ : ∃ V, V = mk (lst [mk (oct 0 8)]) := ⟨_, rfl⟩
  rw [← hV] at C3 HI
  obtain ⟨N, hN⟩ : ∃ N, N = mk (oct 0 8) := ⟨_, rfl⟩
  rw [← hN] at C2 C3
  clear hV hN
  go_enter Tryz.func12, Tryz.ntmps12
  go_wp2_with fail
  refine (C1.out _).mono ?_
  rintro e w1 ⟨rfl, q1⟩
  have n1 := n0.on q1
  have c0 := n1.cell 0
  simp only [List.getElem?_toArray, List.getElem?_cons_zero, List.getElem?_cons_succ] at c0
  have q2 := q0.trans q1
  clear C1 n0 q0 q1
  go_wp2_with fail
  refine (C2.out _).mono ?_
  rintro e w2 ⟨rfl, q3⟩
  have q4 := q2.trans q3
  have n2 := n1.on q3
  have tx := txts_one w2 N
  have q5 := q4.alloc (.cells #[.string N] 9)
  have n3 := n2.alloc (.cells #[.string N] 9)
  clear C2 q2 q3 n1 c0 q4 n2
  go_wp2_with fail
  refine (C3.out _ _ tx).mono ?_
  rintro e w3 ⟨rfl, q6⟩
  have q7 := q5.trans q6
  have n4 := n3.on q6
  have ow0 := own_one w3 w.heap.size itT q7.size
  rw [HI.out] at ow0
  have ow : OwnI w.heap.size (w3.alloc (.cells #[.string ⟨#[116]⟩, .string V] 68)) (.slice (some ⟨w3.heap.size, 0, none⟩) 1 1) [⟨⟨#[116]⟩, V⟩] := ow0
  rw [← HI.out] at ow
  have q8 := q7.alloc (.cells #[.string ⟨#[116]⟩, .string V] 68)
  have n5 := n4.alloc (.cells #[.string ⟨#[116]⟩, .string V] 68)
  have c0 := n5.cell 0
  have c1 := n5.cell 1
  simp only [List.getElem?_toArray, List.getElem?_cons_zero, List.getElem?_cons_succ] at c0 c1
  obtain ⟨g, hg⟩ : ∃ z, z = w3.heap.size := ⟨_, rfl⟩
  obtain ⟨y1, hy1⟩ : ∃ z, z = w3.alloc (.cells #[.string ⟨#[116]⟩, .string V] 68) := ⟨_, rfl⟩
  rw [← hy1] at ow q8 c0 c1
  rw [← hg] at ow
  clear C3 tx q5 q6 n3 n4 q7 ow0 n5
  go_upto_region 4 with fail
  rw [← hy1, ← hg]
  clear hy1 hg
  have HO := Lib.hid ow
  have HQ := Lib.hid q8
  clear ow q8
  go_wp2_with fail
  go_loopw [4, 20] (fun O I wr => O = .slice (some ⟨g, 0, none⟩) 1 1 ∧ I = .int .i64 0 ∧ OwnI w.heap.size wr (.slice (some ⟨g, 0, none⟩) 1 1) [itT] ∧ Q w wr) (fun _ _ _ => 0)
  case atStart => exact ⟨rfl, rfl, HO.out, HQ.out⟩
  case round =>
    obtain ⟨rfl, rfl, ow, q⟩ := hrel
    clear c0 c1 HO HQ
    have C := Lib.hid (C4.out _ _ ow)
    go_wp2_with fail
    refine (C.out).mono ?_
    rintro e w9 ⟨rfl, L', hp, -, o9, g9⟩
    have hL : L' = [itT] := List.perm_singleton.1 hp
    subst hL
    go_wp2_with fail
    go_ret2
    exact ⟨_, rfl, o9, Below.grown q g9 q.size (fun k hk => by have := (World.ownsRow.lt ow k hk).1; omega)⟩
def bE (b : Bool) : Int := if b = true then 0 else 2
set_option maxHeartbeats 4000000 in
theorem build0_any (l : List Itm) (v : Value) (w : World) (b : Bool) (hb : b = decide ([itT] = l)) (hl : l.length ≤ 10) (hx : ∀ x ∈ l, x = itT) (ht : Itms w w.heap.size v l) :
    Calls Tryz.prog 15 #[v] w fun e w' => e = .returned (.tuple #[.agg #[.int .i64 0, .slice none 0 0], .int .i64 (bE b)]) ∧ Q w w' := by
  have C1 := Lib.hid (fun (x : World) (q : Q w x) => drafted0_any l v x hl hx (ht.on q))
  have C2 := Lib.hid of0_any
  have C3 := Lib.hid (fun (x : World) (q : Q w x) (u : Value) (h : Itms x x.heap.size u [itT]) => ieq_any [itT] l u v x (by simp) (by omega) h (ht.on q))
  rw [← hb] at C3
  have n0 := Bx.new w 24 #[.int .i64 0, .slice none 0 0]
  have q0 := (Q.refl w).alloc (.cells #[.int .i64 0, .slice none 0 0] 24)
  clear ht hx hb
  go_enter Tryz.func15, Tryz.ntmps15
  go_wp2_with fail
  refine (C1.out _ q0).mono ?_
  rintro e w1 ⟨rfl, q1⟩
  have hlt := (n0.on q1).lt
  have n1 := (n0.on q1).alloc (.cells #[.int .i64 0, .slice none 0 0] 24)
  have m1 := Bx.new w1 24 #[.int .i64 0, .slice none 0 0]
  have q2 := (q0.trans q1).alloc (.cells #[.int .i64 0, .slice none 0 0] 24)
  clear C1 n0 q0 q1
  go_wp2_with fail
  refine (C2.out _).mono ?_
  rintro e w2 ⟨u, rfl, o2, q3⟩
  have n2 := n1.on q3
  have m2 := m1.on q3
  have q4 := q2.trans q3
  have rd := OwnI.read o2 (fun x hx => by rw [List.mem_singleton] at hx; rw [hx]; exact itT_ok)
  clear C2 n1 m1 q2 q3 o2
  go_upto_region 3 with fail
  have C := Lib.hid (C3.out _ q4 _ rd)
  obtain ⟨pw, hpw⟩ : ∃ z, z = w1.heap.size := ⟨_, rfl⟩
  rw [← hpw] at m2 hlt
  rw [← hpw]
  clear hpw
  cases b with
  | true =>
    clear C3 rd
    go_wp2_with fail
    refine (C.out).mono ?_
    rintro e w5 ⟨rfl, d5⟩
    have q5 := q4.trans d5.q
    have bn := n2.on d5.q
    have bm := m2.on d5.q
    have f0 := bn.frozen 0
    have f1 := bn.frozen 1
    have z0 := bn.cell 0
    have z1 := bn.cell 1
    have u0 := bm.cell 0
    have u1 := bm.cell 1
    simp only [List.getElem?_toArray, List.getElem?_cons_zero, List.getElem?_cons_succ] at z0 z1 u0 u1
    go_wp2_with fail
    have bs := (bn.set 0 (.int .i64 0)).set 1 (.slice none 0 0)
    have k0 := bs.cell 0
    have k1 := bs.cell 1
    simp at k0 k1
    (try simp only [Exit.inBlock, Exit.then])
    refine bodyPost_ret (v := .tuple #[.agg #[.int .i64 0, .slice none 0 0], .int .i64 0]) ?_ rfl ⟨rfl, Q.set (Q.set q5 (Nat.le_refl _) _) (Nat.le_refl _) _⟩
    simp [results, Tryz.results15, go_sem, k0, k1]
  | false =>
    clear C3 rd
    go_wp2_with fail
    refine (C.out).mono ?_
    rintro e w5 ⟨rfl, d5⟩
    have q5 := q4.trans d5.q
    have bn := n2.on d5.q
    have bm := m2.on d5.q
    have f0 := bn.frozen 0
    have f1 := bn.frozen 1
    have z0 := bn.cell 0
    have z1 := bn.cell 1
    have u0 := bm.cell 0
    have u1 := bm.cell 1
    simp only [List.getElem?_toArray, List.getElem?_cons_zero, List.getElem?_cons_succ] at z0 z1 u0 u1
    go_wp2_with fail
    have bs := (bn.set 0 (.int .i64 0)).set 1 (.slice none 0 0)
    have k0 := bs.cell 0
    have k1 := bs.cell 1
    simp at k0 k1
    (try simp only [Exit.inBlock, Exit.then])
    refine bodyPost_ret (v := .tuple #[.agg #[.int .i64 0, .slice none 0 0], .int .i64 2]) ?_ rfl ⟨rfl, Q.set (Q.set q5 (Nat.le_refl _) _) (Nat.le_refl _) _⟩
    simp [results, Tryz.results15, go_sem, k0, k1]
end Go.Proofs.YtbilnomafloopaaGreat
