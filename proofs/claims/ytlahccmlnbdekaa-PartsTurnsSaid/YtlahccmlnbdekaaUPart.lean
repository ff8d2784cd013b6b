/-
  The part of a number, and what a piece lacks: contracts.
-/
import Derived.Test.YtlahccmlnbdekaaULay
namespace Go.Proofs.Ytlahccmlnbdekaa
open Go.ChangeShapes Go.WideShapes Go.ChangeAt Go.RowKit
set_option linter.unusedVariables false
set_option linter.unusedSimpArgs false
set_option maxRecDepth 100000

def noP : Prt := ⟨0, ⟨#[]⟩⟩
/-- The part of a number, and whether it is there. -/
inductive PartC (L : List Prt) (n : Int) : Prt → Bool → Prop
  | yes (i : Nat) (h : i < L.length) : L[i].n = n → (∀ j (hj : j < i) (hl : j < L.length), L[j].n ≠ n) → PartC L n L[i] true
  | no : (∀ j (hl : j < L.length), L[j].n ≠ n) → PartC L n noP false
theorem partC_ex (L : List Prt) (n : Int) : ∃ r b, PartC L n r b := by
  by_cases h : ∃ i, ∃ hi : i < L.length, L[i].n = n
  · obtain ⟨i, hi, e⟩ := h
    induction i using Nat.strongRecOn with
    | ind i ih =>
      by_cases k : ∃ j, ∃ hj : j < i, ∃ hl : j < L.length, L[j].n = n
      · obtain ⟨j, hj, hl, e'⟩ := k
        exact ih j hj hl e'
      · exact ⟨_, _, .yes i hi e fun j hj hl e' => k ⟨j, hj, hl, e'⟩⟩
  · exact ⟨_, _, .no fun j hl e => h ⟨j, hl, e⟩⟩
theorem partC_one {L : List Prt} {n : Int} {r r' : Prt} {b b' : Bool} (h : PartC L n r b) (h' : PartC L n r' b') : r = r' ∧ b = b' := by
  cases h with
  | yes i hi e k =>
    cases h' with
    | yes j hj e' k' =>
      obtain rfl : i = j := by
        rcases Nat.lt_trichotomy i j with g | g | g
        · exact absurd e (k' i g hi)
        · exact g
        · exact absurd e' (k j g hj)
      exact ⟨rfl, rfl⟩
    | no k' => exact absurd e (k' i hi)
  | no k =>
    cases h' with
    | yes j hj e' k' => exact absurd e' (k j hj)
    | no k' => exact ⟨rfl, rfl⟩
theorem cells_setP (w : World) (B : Nat) (a0 b0 a1 b1 : Value) (h : Bx w B 25 #[a0, b0]) : Bx ((w.setCell ⟨B, 0, none⟩ a1).setCell ⟨B, 1, none⟩ b1) B 25 #[a1, b1] := (h.set 0 a1).set 1 b1
theorem boxP_bx {w w1 : World} {i : Value} {k : Value} (q : Q (w.alloc (.cells #[i, k] 25)) w1) : Bx w1 w.heap.size 25 #[i, k] := (Bx.new w _ _).on q
set_option maxHeartbeats 4000000 in
theorem part_any (L : List Prt) (v : Value) (n : Int) (w : World) (r : Prt) (b : Bool) (h : PartC L n r b) (hl : L.length ≤ 1000) (ht : Prts w w.heap.size v L) :
    Calls Try.prog 65 #[v, .int .i64 n] w fun e w' => e = .returned (.tuple #[.agg #[.int .i64 r.n, .string r.data], .bool b]) ∧ Q w w' := by
  have HT := Lib.hid ht
  have HH := Lib.hid h
  obtain ⟨A, c, rfl⟩ := ht.form
  obtain ⟨N, hn⟩ : ∃ N, L.length = N := ⟨_, rfl⟩
  rw [hn] at HT hl ⊢
  have HN := Lib.hid hn
  have q0 := (Q.refl w).alloc (.cells #[.int .i64 0, .string ⟨#[]⟩] 25)
  have QW := Lib.hid q0
  have q00 := Q.refl (w.alloc (.cells #[.int .i64 0, .string ⟨#[]⟩] 25))
  clear ht h hn q0
  go_enter Try.func65, Try.ntmps65
  go_wp2_with fail
  go_loopw [7, 10] (fun _ I wr => ∃ i : Nat, i ≤ N ∧ I = .int .i64 i ∧ Q (w.alloc (.cells #[.int .i64 0, .string ⟨#[]⟩] 25)) wr ∧ Hid (∀ j (hj : j < i) (hl : j < L.length), L[j].n ≠ n)) (fun _ I _ => N - (intOf I).toNat)
  case atStart => exact ⟨0, Nat.zero_le _, rfl, q00, Lib.hid (fun j h => by omega)⟩
  case round =>
    obtain ⟨i, hil, rfl, q, HK⟩ := hrel
    have bx := boxP_bx q
    have z0 := bx.cell 0
    have z1 := bx.cell 1
    have g0 := bx.frozen 0
    have g1 := bx.frozen 1
    simp only [List.getElem?_toArray, List.getElem?_cons_zero, List.getElem?_cons_succ] at z0 z1
    by_cases hlt : i < N
    · have hltL : i < L.length := by have := HN.out; omega
      obtain ⟨a, c', hv, ha, -, hat⟩ := HT.out.pick i hltL
      injection hv with e1 e2 e3
      subst e1 e3
      obtain ⟨c0, c1⟩ := hat _ (QW.out.trans q)
      have hilt : (i : Int) < (N : Int) := by omega
      have HX : Hid (L[i].n = n → r = L[i] ∧ b = true) := Lib.hid (fun e => partC_one HH.out (.yes i hltL e HK.out))
      have HY : Hid (L[i].n ≠ n → ∀ j (hj : j < i + 1) (hl : j < L.length), L[j].n ≠ n) := Lib.hid (fun e j hj hl => by
        by_cases k : j = i
        · subst k; exact e
        · exact HK.out j (by omega) hl)
      obtain ⟨x, hx⟩ : ∃ x, x = L[i] := ⟨_, rfl⟩
      rw [← hx] at c0 c1 HX HY
      clear hat hx e2 bx
      obtain ⟨xn, xd⟩ := x
      simp only at c0 c1 HX HY
      have q3 := q.alloc (.cells #[.int .i64 xn, .string xd] 25)
      have bx3 := Lib.hid ((boxP_bx q).alloc (.cells #[.int .i64 xn, .string xd] 25))
      have hne : w.heap.size < wr.heap.size := by have := q.size; rw [World.size_alloc] at this; omega
      have hne2 : ¬ w.heap.size = wr.heap.size := by omega
      by_cases hxn : xn = n
      · have HV := Lib.hid (HX.out hxn)
        have hd : decide (xn = n) = true := by simp [hxn]
        subst hxn
        have QZ := Lib.hid (QW.out.trans q3)
        go_wp2_with fail
        (try simp only [Exit.inBlock, Exit.then])
        have qA := Q.set (k := 1) (Q.set (k := 0) (QW.out.trans q) (Nat.le_refl w.heap.size) (.int .i64 xn)) (Nat.le_refl w.heap.size) (.string xd)
        have qB := qA.alloc (.cells #[.int .i64 xn, .string xd] 25)
        have bD : Bx (((wr.setCell ⟨w.heap.size, 0, none⟩ (.int .i64 xn)).setCell ⟨w.heap.size, 1, none⟩ (.string xd)).alloc (.cells #[.int .i64 xn, .string xd] 25)) w.heap.size 25 #[.int .i64 xn, .string xd] := (((boxP_bx q).set 0 _).set 1 _).alloc _
        generalize ((wr.setCell ⟨w.heap.size, 0, none⟩ (.int .i64 xn)).setCell ⟨w.heap.size, 1, none⟩ (.string xd)).alloc (.cells #[.int .i64 xn, .string xd] 25) = wE at bD qB ⊢
        have v0 := bD.cell 0
        have v1 := bD.cell 1
        simp only [List.getElem?_toArray, List.getElem?_cons_zero, List.getElem?_cons_succ] at v0 v1
        refine bodyPost_ret (v := .tuple #[.agg #[.int .i64 xn, .string xd], .bool true]) ?_ rfl ⟨by rw [HV.out.1, HV.out.2], qB⟩
        simp [results, Try.results65, go_sem, v0, v1]
      · have HK2 := Lib.hid (HY.out hxn)
        go_wp2_with fail
        go_roundw
        case rel => exact ⟨i + 1, by omega, by go_num, q3, HK2⟩
        case measure => simp [intOf]; omega
    · have HV : Hid (r = noP ∧ b = false) := Lib.hid (partC_one HH.out (.no fun j hl => HK.out j (by have := HN.out; omega) hl))
      have hilt : ¬ (i : Int) < (N : Int) := by omega
      go_wp2_with fail
      (try simp only [Exit.inBlock, Exit.then])
      have qA := Q.set (k := 1) (Q.set (k := 0) (QW.out.trans q) (Nat.le_refl w.heap.size) (.int .i64 0)) (Nat.le_refl w.heap.size) (.string ⟨#[]⟩)
      have bD : Bx ((wr.setCell ⟨w.heap.size, 0, none⟩ (.int .i64 0)).setCell ⟨w.heap.size, 1, none⟩ (.string ⟨#[]⟩)) w.heap.size 25 #[.int .i64 0, .string ⟨#[]⟩] := ((boxP_bx q).set 0 _).set 1 _
      generalize (wr.setCell ⟨w.heap.size, 0, none⟩ (.int .i64 0)).setCell ⟨w.heap.size, 1, none⟩ (.string ⟨#[]⟩) = wE at bD qA ⊢
      have v0 := bD.cell 0
      have v1 := bD.cell 1
      simp only [List.getElem?_toArray, List.getElem?_cons_zero, List.getElem?_cons_succ] at v0 v1
      refine bodyPost_ret (v := .tuple #[.agg #[.int .i64 0, .string ⟨#[]⟩], .bool false]) ?_ rfl ⟨by rw [HV.out.1, HV.out.2]; rfl, qA⟩
      simp [results, Try.results65, go_sem, v0, v1]

/-- The octets of the part of a number; none, if it is not there. -/
noncomputable def partD (L : List Prt) (n : Int) : ByteArray := (Classical.choose (partC_ex L n)).data
/-- Does a piece lack its part? -/
noncomputable def lackB (L : List Prt) (x : Pce) : Bool := by
  classical exact decide (¬ ∃ p, PartC L x.n p true ∧ crc (bl p.data) = x.tag)
noncomputable def lackO (L : List Prt) (x : Pce) : Bool := decide ((partD L x.n).size < 5)
theorem partD_is {L : List Prt} {n : Int} {p : Prt} {b : Bool} (h : PartC L n p b) : partD L n = p.data := by
  obtain ⟨b', hb⟩ := Classical.choose_spec (partC_ex L n)
  rw [partD, (partC_one hb h).1]
theorem lackB_no {L : List Prt} {x : Pce} {p : Prt} (h : PartC L x.n p false) : lackB L x = true := by
  rw [lackB]
  simp only [decide_eq_true_eq]
  rintro ⟨p', h', -⟩
  have := (partC_one h h').2
  simp at this
theorem lackB_yes {L : List Prt} {x : Pce} {p : Prt} (h : PartC L x.n p true) : lackB L x = decide (crc (bl p.data) ≠ x.tag) := by
  rw [lackB]
  apply decide_eq_decide.2
  constructor
  · intro k e; exact k ⟨p, h, e⟩
  · rintro k ⟨p', h', e⟩
    rw [(partC_one h h').1] at k
    exact k e
theorem lackO_is {L : List Prt} {x : Pce} {p : Prt} {b : Bool} (h : PartC L x.n p b) : lackO L x = decide (p.data.size < 5) := by rw [lackO, partD_is h]

set_option maxHeartbeats 4000000 in
theorem lacksP_any (L : List Prt) (v : Value) (x : Pce) (w : World) (hl : L.length ≤ 1000) (hL : ∀ p ∈ L, p.data.size ≤ 5000) (ht : Prts w w.heap.size v L) :
    Calls Try.prog 49 #[v, pce x] w fun e w' => e = .returned (.bool (lackB L x)) ∧ Q w w' := by
  obtain ⟨p, b, hp⟩ := partC_ex L x.n
  have q00 := (Q.refl w).alloc (.cells #[.int .i64 x.n, .int .u32 (x.tag : Nat)] 65)
  have C := Lib.hid (part_any L v x.n _ p b hp hl (ht.on q00))
  have HP := Lib.hid hp
  have hd : p.data.size ≤ 5000 := by
    cases hp with
    | yes i h _ _ => exact hL _ (List.getElem_mem h)
    | no _ => show (0 : Nat) ≤ 5000; omega
  obtain ⟨A, c, rfl⟩ := ht.form
  obtain ⟨N, hn⟩ : ∃ N, L.length = N := ⟨_, rfl⟩
  obtain ⟨xn, xt⟩ := x
  obtain ⟨pn, pd⟩ := p
  simp only at q00 C HP hd
  rw [hn] at C
  simp only [pce]
  rw [hn]
  have OF := Lib.hid fun d => of_any pd d hd
  have HD := Lib.hid hd
  have HB : Hid (∀ b, Q (w.alloc (.cells #[.int .i64 xn, .int .u32 (xt : Nat)] 65)) b → b.cell? ⟨w.heap.size, 0, none⟩ = some (.int .i64 xn) ∧ b.cell? ⟨w.heap.size, 1, none⟩ = some (.int .u32 (xt : Nat))) := Lib.hid fun b q => by
    have bx : Bx b w.heap.size 65 #[.int .i64 xn, .int .u32 (xt : Nat)] := (Bx.new w _ _).on q
    exact ⟨bx.cell 0, bx.cell 1⟩
  clear hp ht hl hL hn hd
  have e0 := HB.out _ (Q.refl _)
  cases b with
  | false =>
    have HV : Hid (lackB L ⟨xn, xt⟩ = true) := Lib.hid (by have := lackB_no (x := ⟨xn, xt⟩) HP.out; exact this)
    go_enter Try.func49, Try.ntmps49
    go_wp2_with fail
    refine (C.out).mono ?_
    rintro e w1 ⟨rfl, q1⟩
    have q2 := q00.trans q1
    have q3 := q2.alloc (.cells #[.int .i64 pn, .string pd] 25)
    clear e0 q00
    go_wp2_with fail
    go_quiet (fail)
    go_wp2
    go_ret
    exact ⟨ret_bool (by rw [HV.out]), Q.drewN q3 _⟩
  | true =>
    have HV : Hid (lackB L ⟨xn, xt⟩ = decide (crc (bl pd) ≠ xt)) := Lib.hid (by have := lackB_yes (x := ⟨xn, xt⟩) HP.out; exact this)
    obtain ⟨k, hk⟩ : ∃ k, k = crc (bl pd) := ⟨_, rfl⟩
    rw [← hk] at HV OF
    clear hk
    by_cases he : k = xt
    · subst he
      have HW : Hid (lackB L ⟨xn, k⟩ = false) := Lib.hid (by rw [HV.out]; simp)
      clear HV
      go_enter Try.func49, Try.ntmps49
      go_wp2_with fail
      refine (C.out).mono ?_
      rintro e w1 ⟨rfl, q1⟩
      have q2 := q00.trans q1
      have q3 := q2.alloc (.cells #[.int .i64 pn, .string pd] 25)
      obtain ⟨z0, z1⟩ := HB.out _ (q1.alloc (.cells #[.int .i64 pn, .string pd] 25))
      obtain ⟨z2, z3⟩ := HB.out _ q1
      clear e0 q00
      go_wp2_with fail
      go_quiet ((go_at_call 35; first | exact OF.out _ | exact quiet_left (OF.out _)))
      go_wp2
      go_ret
      exact ⟨ret_bool (by rw [HW.out]), Q.drewN q3 _⟩
    · have HW : Hid (lackB L ⟨xn, xt⟩ = true) := Lib.hid (by rw [HV.out]; simpa using he)
      have hi : ¬ (k : Int) = (xt : Int) := by omega
      have hi2 : ((k : Int) != (xt : Int)) = true := by simpa using hi
      clear HV
      go_enter Try.func49, Try.ntmps49
      go_wp2_with fail
      refine (C.out).mono ?_
      rintro e w1 ⟨rfl, q1⟩
      have q2 := q00.trans q1
      have q3 := q2.alloc (.cells #[.int .i64 pn, .string pd] 25)
      obtain ⟨z0, z1⟩ := HB.out _ (q1.alloc (.cells #[.int .i64 pn, .string pd] 25))
      obtain ⟨z2, z3⟩ := HB.out _ q1
      clear e0 q00
      go_wp2_with fail
      go_quiet ((go_at_call 35; first | exact OF.out _ | exact quiet_left (OF.out _)))
      go_wp2
      go_ret
      exact ⟨ret_bool (by rw [HW.out]), Q.drewN q3 _⟩

set_option maxHeartbeats 4000000 in
theorem lacksO_any (L : List Prt) (v : Value) (x : Pce) (w : World) (hl : L.length ≤ 1000) (hL : ∀ p ∈ L, p.data.size ≤ 5000) (ht : Prts w w.heap.size v L) :
    Calls Try.prog 50 #[v, pce x] w fun e w' => e = .returned (.bool (lackO L x)) ∧ Q w w' := by
  obtain ⟨p, b, hp⟩ := partC_ex L x.n
  have q00 := (Q.refl w).alloc (.cells #[.int .i64 x.n, .int .u32 (x.tag : Nat)] 65)
  have C := Lib.hid (part_any L v x.n _ p b hp hl (ht.on q00))
  have HP := Lib.hid hp
  have hd : p.data.size ≤ 5000 := by
    cases hp with
    | yes i h _ _ => exact hL _ (List.getElem_mem h)
    | no _ => show (0 : Nat) ≤ 5000; omega
  obtain ⟨A, c, rfl⟩ := ht.form
  obtain ⟨N, hn⟩ : ∃ N, L.length = N := ⟨_, rfl⟩
  obtain ⟨xn, xt⟩ := x
  obtain ⟨pn, pd⟩ := p
  simp only at q00 C HP hd
  rw [hn] at C
  simp only [pce]
  rw [hn]
  have OF := Lib.hid fun d => of_any pd d hd
  have HD := Lib.hid hd
  have HB : Hid (∀ b, Q (w.alloc (.cells #[.int .i64 xn, .int .u32 (xt : Nat)] 65)) b → b.cell? ⟨w.heap.size, 0, none⟩ = some (.int .i64 xn) ∧ b.cell? ⟨w.heap.size, 1, none⟩ = some (.int .u32 (xt : Nat))) := Lib.hid fun b q => by
    have bx : Bx b w.heap.size 65 #[.int .i64 xn, .int .u32 (xt : Nat)] := (Bx.new w _ _).on q
    exact ⟨bx.cell 0, bx.cell 1⟩
  clear hp ht hl hL hn hd
  have e0 := HB.out _ (Q.refl _)
  have HV : Hid (lackO L ⟨xn, xt⟩ = decide (pd.size < 5)) := Lib.hid (by have := lackO_is (x := ⟨xn, xt⟩) HP.out; exact this)
  by_cases h5 : pd.size < 5
  · have h5' : (pd.size : Int) < 5 := by omega
    have HW : Hid (lackO L ⟨xn, xt⟩ = true) := Lib.hid (by rw [HV.out]; simpa using h5)
    clear HV
    go_enter Try.func50, Try.ntmps50
    go_wp2_with fail
    refine (C.out).mono ?_
    rintro e w1 ⟨rfl, q1⟩
    have q3 := (q00.trans q1).alloc (.cells #[.int .i64 pn, .string pd] 25)
    clear e0 q00
    go_wp2
    go_ret
    exact ⟨ret_bool (by rw [HW.out]), q3⟩
  · have h5' : ¬ (pd.size : Int) < 5 := by omega
    have HW : Hid (lackO L ⟨xn, xt⟩ = false) := Lib.hid (by rw [HV.out]; simpa using h5)
    clear HV
    go_enter Try.func50, Try.ntmps50
    go_wp2_with fail
    refine (C.out).mono ?_
    rintro e w1 ⟨rfl, q1⟩
    have q3 := (q00.trans q1).alloc (.cells #[.int .i64 pn, .string pd] 25)
    clear e0 q00
    go_wp2
    go_ret
    exact ⟨ret_bool (by rw [HW.out]; simp; omega), q3⟩
end Go.Proofs.Ytlahccmlnbdekaa
