/-
  Contracts of slices.Clone, apart, allApart, place, and both Find.
-/
import Derived.Test.YtlahccmlnbdekaaUBox
import Derived.Shelf.Abstract
namespace Go.Proofs.Ytlahccmlnbdekaa
open Go.ChangeShapes Go.WideShapes Go.ChangeAt Go.RowKit
set_option linter.unusedVariables false
set_option linter.unusedSimpArgs false
set_option maxRecDepth 100000

set_option maxHeartbeats 1000000 in
/-- What slices.Clone makes of parts: a row of its own. -/
theorem cloneP_any (l : List Prt) (v : Value) (w : World) (hl : l.length ≤ 4000) (ht : Prts w w.heap.size v l) :
    Calls Try.prog 61 #[v] w fun e w' => ∃ v', e = .returned v' ∧ OwnP w.heap.size w' v' l ∧ Q w w' := by
  have HT := Lib.hid ht
  obtain ⟨A, c, rfl⟩ := ht.form
  cases A with
  | none =>
    have hc : c = 0 ∧ l = [] := by
      obtain ⟨A', c', e, e0, ez, -, -⟩ := ht
      injection e with e1 e2 e3
      have := ez e1.symm
      exact ⟨by omega, List.length_eq_zero_iff.1 (by omega)⟩
    obtain ⟨rfl, rfl⟩ := hc
    simp only [List.length_nil]
    have he := fun w => Lib.run_eql_slice_nil (P := Try.prog) w 38 25 none 0 0 0 0 Try.underlying38
    go_enter Try.func61, Try.ntmps61
    go_wp2
    go_ret
    exact ⟨_, rfl, OwnP.nil _ _, Q.refl _⟩
  | some a =>
    have q0 := (Q.refl w).alloc (.cells #[] 25)
    have hown : OwnP w.heap.size (w.alloc (.cells #[] 25)) (.slice (some ⟨w.heap.size, 0, none⟩) 0 0) [] := World.ownsRow_made w #[] 0 (Nat.le_refl _) (by unfold maxLen; omega) (by simp)
    have HO := Lib.hid hown
    have he := fun w => Lib.run_eql_slice_nil (P := Try.prog) w 38 25 (some a) l.length c 0 0 Try.underlying38
    clear ht hown
    go_enter Try.func61, Try.ntmps61
    go_wp2_with (at_builtin; refine wpList_append_part _ rfl _ _ 38 Try.underlying38 rfl w.heap.size _ _ [] l rfl rfl HO.out (HT.out.below q0) ?hb ?ha ?_; (case hb => simp); (case ha => (try simp); omega); intro v2 w2 o2 g2; have b2 := HO.out.grown q0 (by simp) g2; clear g2)
    go_ret
    exact ⟨_, rfl, by simpa using o2, b2⟩
set_option maxHeartbeats 1000000 in
/-- What slices.Clone makes of uploads: a row of its own. -/
theorem cloneU_any (l : List Upl) (v : Value) (w : World) (hl : l.length ≤ 4000) (ht : Upls w w.heap.size v l) :
    Calls Try.prog 59 #[v] w fun e w' => ∃ v', e = .returned v' ∧ OwnU w.heap.size w' v' l ∧ Q w w' := by
  have HT := Lib.hid ht
  obtain ⟨A, c, rfl⟩ := ht.form
  cases A with
  | none =>
    have hc : c = 0 ∧ l = [] := by
      obtain ⟨A', c', e, e0, ez, -, -⟩ := ht
      injection e with e1 e2 e3
      have := ez e1.symm
      exact ⟨by omega, List.length_eq_zero_iff.1 (by omega)⟩
    obtain ⟨rfl, rfl⟩ := hc
    simp only [List.length_nil]
    have he := fun w => Lib.run_eql_slice_nil (P := Try.prog) w 22 40 none 0 0 0 0 Try.underlying22
    go_enter Try.func59, Try.ntmps59
    go_wp2
    go_ret
    exact ⟨_, rfl, OwnU.nil _ _, Q.refl _⟩
  | some a =>
    have q0 := (Q.refl w).alloc (.cells #[] 40)
    have hown : OwnU w.heap.size (w.alloc (.cells #[] 40)) (.slice (some ⟨w.heap.size, 0, none⟩) 0 0) [] := ⟨[], rfl, World.ownsRow_made w #[] 0 (Nat.le_refl _) (by unfold maxLen; omega) (by simp), by simp⟩
    have HO := Lib.hid hown
    have he := fun w => Lib.run_eql_slice_nil (P := Try.prog) w 22 40 (some a) l.length c 0 0 Try.underlying22
    clear ht hown
    go_enter Try.func59, Try.ntmps59
    go_wp2_with (at_builtin; refine wpList_append_upl _ rfl _ _ 22 Try.underlying22 rfl w.heap.size _ [] l rfl rfl HO.out (HT.out.below q0) ?hb ?ha ?_; (case hb => simp); (case ha => (try simp); omega); intro v2 w2 o2 g2; have b2 : Q w w2 := Below.trans q0 g2; clear g2)
    go_ret
    exact ⟨_, rfl, by simpa using o2, b2⟩
set_option maxHeartbeats 1000000 in
/-- The upload with a list of its own. -/
theorem apartU_any (u : Upl) (v : Value) (w : World) (hl : u.L.length ≤ 4000) (ht : Prts w w.heap.size v u.L) :
    Calls Try.prog 38 #[upl u v] w fun e w' => ∃ v', e = .returned (upl u v') ∧ OwnP w.heap.size w' v' u.L ∧ Q w w' := by
  obtain ⟨id, key, L⟩ := u
  simp only at hl ht
  obtain ⟨A, c, rfl⟩ := ht.form
  obtain ⟨n, hn⟩ : ∃ n, L.length = n := ⟨_, rfl⟩
  rw [hn] at ht
  have CL : Hid (∀ d, Q w d → Calls Try.prog 61 #[.slice A n c] d fun e w' => ∃ v', e = .returned v' ∧ OwnP d.heap.size w' v' L ∧ Q d w') := Lib.hid (fun d q => cloneP_any L _ d hl (ht.on q))
  have q0 := ((Q.refl w).alloc (.cells #[.int .u64 (id : Nat), .string key, .slice A n c] 40)).alloc (.cells #[.int .u64 0, .string ⟨#[]⟩, .slice none 0 0] 40)
  rw [upl]
  simp only
  rw [hn]
  clear ht hl hn
  have X0 : ∀ d, Q ((w.alloc (.cells #[.int .u64 (id : Nat), .string key, .slice A n c] 40)).alloc (.cells #[.int .u64 0, .string ⟨#[]⟩, .slice none 0 0] 40)) d →
      d.heap[w.heap.size]? = some (.cells #[.int .u64 (id : Nat), .string key, .slice A n c] 40 (0, 0)) ∧ d.heap[w.heap.size + 1]? = some (.cells #[.int .u64 0, .string ⟨#[]⟩, .slice none 0 0] 40 (0, 0)) := fun d q => by
    refine ⟨(q.block w.heap.size (by simp; omega)).trans ?_, (q.block (w.heap.size + 1) (by simp)).trans ?_⟩
    · rw [Below.heap_alloc _ _ _ (by simp)]; exact heap_alloc_new w _
    · have := heap_alloc_new (w.alloc (.cells #[.int .u64 (id : Nat), .string key, .slice A n c] 40)) (.cells #[.int .u64 0, .string ⟨#[]⟩, .slice none 0 0] 40)
      rw [World.size_alloc] at this; exact this
  have HX := Lib.hid X0
  clear X0
  go_enter Try.func38, Try.ntmps38
  go_wp2_with fail
  refine (CL.out _ q0).mono ?_
  rintro e w1 ⟨v1, rfl, o1, q1⟩
  obtain ⟨x1, x2⟩ := HX.out _ q1
  have b1 : Bx w1 w.heap.size 40 #[.int .u64 (id : Nat), .string key, .slice A n c] := x1
  have b2 : Bx w1 (w.heap.size + 1) 40 #[.int .u64 0, .string ⟨#[]⟩, .slice none 0 0] := x2
  have qq := q0.trans q1
  have o2 := Lib.hid (OwnP.low o1 q0.size)
  have o3 := Lib.hid o1
  obtain ⟨A3, n3, c3, rfl⟩ : ∃ A n c, v1 = .slice A n c := by obtain ⟨A, c, e⟩ := o1.form; exact ⟨A, _, c, e⟩
  clear x1 x2 o1
  have f0 := b1.cell 0
  have f1 := b1.cell 1
  have f2 := b1.cell 2
  have g2 := b1.frozen 2
  have r0 := b2.cell 0
  have r1 := b2.cell 1
  have r2 := b2.cell 2
  have h0 := b2.frozen 0
  have h1 := b2.frozen 1
  have h2 := b2.frozen 2
  simp only [List.getElem?_toArray, List.getElem?_cons_zero, List.getElem?_cons_succ] at f0 f1 f2 r0 r1 r2
  go_wp2
  (try simp only [Exit.inBlock, Exit.then])
  obtain ⟨wC, hwC⟩ : ∃ wC, wC = (((w1.setCell ⟨w.heap.size, 2, none⟩ (.slice A3 n3 c3)).setCell ⟨w.heap.size + 1, 0, none⟩ (.int .u64 (id : Nat))).setCell ⟨w.heap.size + 1, 1, none⟩ (.string key)).setCell ⟨w.heap.size + 1, 2, none⟩ (.slice A3 n3 c3) := ⟨_, rfl⟩
  have bD : Bx wC (w.heap.size + 1) 40 #[.int .u64 (id : Nat), .string key, .slice A3 n3 c3] := by rw [hwC]; exact ((((b2.other (by omega) _ _).set 0 _).set 1 _).set 2 _)
  have oC : OwnP w.heap.size wC (.slice A3 n3 c3) L := by
    rw [hwC]
    refine OwnP.low (base := w.heap.size + 2) ?_ (by omega)
    have o4 : OwnP (w.heap.size + 2) w1 (.slice A3 n3 c3) L := by have := o3.out; rw [World.size_alloc, World.size_alloc] at this; exact this
    exact ownsRow_set (ownsRow_set (ownsRow_set (ownsRow_set o4 (by omega)) (by omega)) (by omega)) (by omega)
  have qC : Q w wC := by rw [hwC]; exact Q.set (Q.set (Q.set (Q.set qq (Nat.le_refl _) _) (by omega) _) (by omega) _) (by omega) _
  rw [← hwC]
  have v0 := bD.cell 0
  have v1 := bD.cell 1
  have v2 := bD.cell 2
  simp only [List.getElem?_toArray, List.getElem?_cons_zero, List.getElem?_cons_succ] at v0 v1 v2
  refine bodyPost_ret (v := .agg #[.int .u64 (id : Nat), .string key, .slice A3 n3 c3]) ?_ rfl ⟨_, rfl, oC, qC⟩
  simp [results, Try.results38, go_sem, v0, v1, v2]

set_option maxHeartbeats 4000000 in
/-- The uploads, each with a list of its own. -/
theorem allApart_any (l : List Upl) (v : Value) (w : World) (hs : smL l) (ht : Upls w w.heap.size v l) :
    Calls Try.prog 34 #[v] w fun e w' => ∃ v', e = .returned v' ∧ OwnU w.heap.size w' v' l ∧ Q w w' := by
  have hl := hs.1
  have CL := Lib.hid (cloneU_any l v w (by omega) ht)
  have HS := Lib.hid hs.2
  obtain ⟨A0, c0, rfl⟩ := ht.form
  clear ht hs
  go_enter Try.func34, Try.ntmps34
  go_wp2_with fail
  refine (CL.out).mono ?_
  rintro e w1 ⟨v1, rfl, own1, q1⟩
  clear CL
  obtain ⟨A, c, rfl⟩ := own1.form
  go_wp2_with fail
  go_loopw [4, 5, 10] (fun _ _ I wr => ∃ i : Nat, i ≤ l.length ∧ I = .int .i64 i ∧ OwnU w.heap.size wr (.slice A l.length c) l ∧ Q w wr) (fun _ _ I _ => l.length - (intOf I).toNat)
  case atStart => exact ⟨0, Nat.zero_le _, rfl, own1, q1⟩
  case round =>
    obtain ⟨i, hil, rfl, hown, q⟩ := hrel
    clear own1 q1
    by_cases hlt : i < l.length
    · obtain ⟨P, hP, r, f⟩ := hown
      have hPl : P.length = l.length := by rw [← hP, List.length_map]
      obtain ⟨a, hA, ha1, ha2, hat⟩ := r.at i (by omega)
      subst hA
      have hpi : P[i]'(by omega) ∈ P := List.getElem_mem _
      have hx1 : (P[i]'(by omega)).1 = l[i] := by simp [← hP]
      have hx2 := (HS.out _ (List.getElem_mem hlt)).2.1
      have ap0 := (f _ hpi).2
      rw [← hx1] at hx2
      obtain ⟨x, hx⟩ : ∃ x, x = P[i]'(by omega) := ⟨_, rfl⟩
      have HXX := Lib.hid hx
      rw [← hx] at hat ap0 hx2
      obtain ⟨x, u⟩ := x
      dsimp only at hat ap0 hx2
      clear hx hx1 hpi
      have hvs := ap0.read q.size
      obtain ⟨A2, c2, rfl⟩ := hvs.form
      obtain ⟨d0, d1, d2, -⟩ := hat _ (Q.refl _)
      have HAT := Lib.hid hat
      have CV : Hid (∀ d, Q wr d → Calls Try.prog 38 #[upl x (.slice A2 x.L.length c2)] d fun e w' => ∃ v', e = .returned (upl x v') ∧ OwnP d.heap.size w' v' x.L ∧ Q d w') := Lib.hid (fun d k => apartU_any x _ d (by omega) (hvs.on k))
      rw [upl] at CV
      have R := Lib.hid r
      have F := Lib.hid f
      have hok := Lib.hid ap0.1
      have HP := Lib.hid hP
      have hilt : (i : Int) < (l.length : Int) := by omega
      have hq3 := (Q.refl wr).alloc (.cells #[.int .u64 (x.id : Nat), .string x.key, .slice A2 x.L.length c2] 40)
      clear hat hvs ap0 r f hP
      go_wp2_with fail
      refine (CV.out _ hq3).mono ?_
      rintro e wc ⟨v3, rfl, o3, q3⟩
      obtain ⟨A3, n3, c3, rfl⟩ : ∃ A n c, v3 = .slice A n c := by obtain ⟨A, c, e⟩ := o3.form; exact ⟨A, _, c, e⟩
      have qc : Q wr wc := hq3.trans q3
      obtain ⟨e0, e1, e2, k0, k1, k2⟩ := HAT.out _ qc
      have r3 := R.out.on qc
      have f3 : ∀ p ∈ P, OwnU1 w.heap.size wc p := fun p hp => ⟨(F.out p hp).1, (F.out p hp).2.on qc q.size⟩
      have u3 : AptU w.heap.size wc (.slice A3 n3 c3) x.L := ⟨hok.out, by unfold maxLen; omega, .inr (OwnP.low o3 (by have := q.size; simp; omega))⟩
      have s3 := r3.store_all f3 i (by omega) u3 ((q.trans qc).size)
      have hset : (P.map (·.1)).set i { (P[i]'(by omega)).1 with L := x.L } = l := by
        rw [← HXX.out, HP.out]
        refine List.ext_getElem (by simp) fun j h1 h2 => ?_
        rw [List.getElem_set]
        split
        · rename_i e; subst e
          have : x = l[i] := by have := congrArg Prod.fst HXX.out; simpa [← HP.out] using this
          rw [← this]
        · rfl
      rw [hset, ← HXX.out] at s3
      dsimp only at s3
      have b3 : Q w (((wc.setCell (a.add (i * 3)) (.int .u64 (x.id : Nat))).setCell ⟨(a.add (i * 3)).block, (a.add (i * 3)).off + 1, none⟩ (.string x.key)).setCell ⟨(a.add (i * 3)).block, (a.add (i * 3)).off + 2, none⟩ (.slice A3 n3 c3)) :=
        Q.set (Q.set (Below.setCell (q.trans qc) (by rw [add_block]; exact ha1) _) (by rw [add_block]; exact ha1) _) (by rw [add_block]; exact ha1) _
      have n1 : a.add (i * 3) ≠ ⟨(a.add (i * 3)).block, (a.add (i * 3)).off + 1, none⟩ := fun e => by have := congrArg Addr.off e; simp at this
      have n2 : a.add (i * 3) ≠ ⟨(a.add (i * 3)).block, (a.add (i * 3)).off + 2, none⟩ := fun e => by have := congrArg Addr.off e; simp at this
      have n3' : (⟨(a.add (i * 3)).block, (a.add (i * 3)).off + 1, none⟩ : Addr) ≠ ⟨(a.add (i * 3)).block, (a.add (i * 3)).off + 2, none⟩ := fun e => by have := congrArg Addr.off e; simp at this
      have y1 : (wc.setCell (a.add (i * 3)) (.int .u64 (x.id : Nat))).cell? ⟨(a.add (i * 3)).block, (a.add (i * 3)).off + 1, none⟩ = some (.string x.key) := (World.cell?_setCell_other _ _ _ _ n1).trans e1
      have y2 : ((wc.setCell (a.add (i * 3)) (.int .u64 (x.id : Nat))).setCell ⟨(a.add (i * 3)).block, (a.add (i * 3)).off + 1, none⟩ (.string x.key)).cell? ⟨(a.add (i * 3)).block, (a.add (i * 3)).off + 2, none⟩ = some (.slice A2 x.L.length c2) := (World.cell?_setCell_other _ _ _ _ n3').trans ((World.cell?_setCell_other _ _ _ _ n2).trans e2)
      clear r3 f3 u3 o3 hset n1 n2 n3'
      rw [upl]
      go_wp2
      go_roundw
      case rel => exact ⟨i + 1, by omega, by go_num, s3, b3⟩
      case measure => simp [intOf]; omega
    · have h2 : ¬ (i : Int) < (l.length : Int) := by omega
      go_wp2
      go_ret
      exact ⟨_, rfl, hown, q⟩

/-- The place of the upload of an ID; below 0, if there is none. -/
def idxU (l : List Upl) (id : Nat) : Int := match l.findIdx? (fun x => decide (x.id = id)) with
  | some i => (i : Nat)
  | none => -1
theorem idxU_hit {l : List Upl} {id i : Nat} (hl : i < l.length) (h : l[i].id = id) (k : ∀ j (hj : j < i) (hl : j < l.length), l[j].id ≠ id) : idxU l id = i := by
  have : l.findIdx? (fun x => decide (x.id = id)) = some i := by
    rw [List.findIdx?_eq_some_iff_getElem]
    exact ⟨hl, by simpa using h, fun j hj => by simpa using k j hj (by omega)⟩
  rw [idxU, this]
theorem idxU_none {l : List Upl} {id : Nat} (k : ∀ j (hl : j < l.length), l[j].id ≠ id) : idxU l id = -1 := by
  have : l.findIdx? (fun x => decide (x.id = id)) = none := by
    rw [List.findIdx?_eq_none_iff]
    intro x hx
    obtain ⟨j, hj, rfl⟩ := List.getElem_of_mem hx
    simpa using k j hj
  rw [idxU, this]
/-- Where an ID is. -/
theorem where_id (l : List Upl) (id : Nat) : (idxU l id = -1 ∧ ∀ j (hl : j < l.length), l[j].id ≠ id) ∨ ∃ i, ∃ h : i < l.length, idxU l id = (i : Nat) ∧ l[i].id = id ∧ ∀ j (hj : j < i) (hl : j < l.length), l[j].id ≠ id := by
  cases h : l.findIdx? (fun x => decide (x.id = id)) with
  | some i =>
    have h' := h
    rw [List.findIdx?_eq_some_iff_getElem] at h
    obtain ⟨hi, hp, hk⟩ := h
    exact .inr ⟨i, hi, by rw [idxU, h'], by simpa using hp, fun j hj hl => by simpa using hk j hj⟩
  | none =>
    have h' := h
    rw [List.findIdx?_eq_none_iff] at h
    exact .inl ⟨by rw [idxU, h'], fun j hl => by simpa using h _ (List.getElem_mem hl)⟩
set_option maxHeartbeats 1000000 in
/-- The closure that tells whether an upload is of an ID. -/
theorem isUpl_any (i id : Nat) (k : ByteArray) (u : Value) (hu : ∃ A n c, u = .slice A n c) (B : Nat) (w : World) (hc : w.cell? ⟨B, 0, none⟩ = some (.int .u64 (id : Nat))) (hB : B < w.heap.size) :
    Calls Try.prog 57 #[.agg #[.int .u64 (i : Nat), .string k, u], .pointer (some ⟨B, 0, none⟩)] w fun e w' => e = .returned (.bool (decide (i = id))) ∧ Q w w' := by
  have HQ := Lib.hid (fun o => (Q.refl w).alloc o)
  have hne : B ≠ w.heap.size := by omega
  obtain ⟨A, n, c, rfl⟩ := hu
  by_cases h : i = id
  · subst h
    go_enter Try.func57, Try.ntmps57
    go_wp2
    go_ret
    exact ⟨ret_bool (by simp), HQ.out _⟩
  · have h1 : ¬ (i : Int) = (id : Int) := by omega
    have HV : Hid (decide (i = id) = false) := Lib.hid (by simp [h])
    clear h
    go_enter Try.func57, Try.ntmps57
    go_wp2
    go_ret
    exact ⟨ret_bool (by rw [HV.out]; try (simp; try omega)), HQ.out _⟩
theorem eg_upl : ∀ args w, (callFunc 57 args).run Try.prog w = .ok (.enter 57 args) w := enters_of Try.func57 (by kernel_rfl) rfl
set_option maxHeartbeats 2000000 in
theorem indexFuncU_any (g B : Nat) (id : Nat) (l : List Upl) (v : Value) (w : World) (eg : ∀ args w, (callFunc g args).run Try.prog w = .ok (.enter g args) w)
    (hp : ∀ i k A n c b, Q w b → Calls Try.prog g #[.agg #[.int .u64 (i : Nat), .string k, .slice A n c], .pointer (some ⟨B, 0, none⟩)] b fun e w' => e = .returned (.bool (decide (i = id))) ∧ Q b w')
    (hl : l.length ≤ 1000) (ht : Upls w w.heap.size v l) :
    Calls Try.prog 56 #[v, .func (.func g) #[] #[.pointer (some ⟨B, 0, none⟩)]] w fun e w' => e = .returned (.int .i64 (idxU l id)) ∧ Q w w' := by
  have HT := Lib.hid ht
  have HP := Lib.hid hp
  obtain ⟨A, c, rfl⟩ := ht.form
  clear ht hp
  go_enter Try.func56, Try.ntmps56
  go_wp2_with fail
  go_loopw [5, 8] (fun _ I wr => ∃ i : Nat, i ≤ l.length ∧ I = .int .i64 i ∧ Q w wr ∧ Hid (∀ j (hj : j < i) (hl : j < l.length), l[j].id ≠ id)) (fun _ I _ => l.length - (intOf I).toNat)
  case atStart => exact ⟨0, Nat.zero_le _, rfl, Q.refl _, Lib.hid (fun j h => by omega)⟩
  case round =>
    obtain ⟨i, hil, rfl, q, HK⟩ := hrel
    by_cases hlt : i < l.length
    · obtain ⟨a, c', hv, ha, A2, c2, hvs, hat⟩ := HT.out.pick i hlt
      injection hv with e1 e2 e3
      subst e1 e3
      obtain ⟨d0, d1, d2⟩ := hat _ q
      have C := HP.out l[i].id l[i].key A2 l[i].L.length c2 wr q
      by_cases hpx : l[i].id = id
      · have HV := Lib.hid (idxU_hit hlt hpx HK.out)
        rw [decide_eq_true hpx] at C
        obtain ⟨x, hx⟩ : ∃ x, x = l[i] := ⟨_, rfl⟩
        rw [← hx] at d0 d1 d2 C
        have C := Lib.hid C
        clear hx hpx hat hvs
        go_wp2_with (go_at_fn g; refine (C.out).mono ?_; rintro e w1 ⟨rfl, q1⟩)
        go_ret
        exact ⟨by rw [HV.out]; rfl, q.trans q1⟩
      · have HK2 : Hid (∀ j (hj : j < i + 1) (hl : j < l.length), l[j].id ≠ id) := Lib.hid (fun j hj hl => by
          by_cases e : j = i
          · subst e; exact hpx
          · exact HK.out j (by omega) hl)
        rw [decide_eq_false hpx] at C
        obtain ⟨x, hx⟩ : ∃ x, x = l[i] := ⟨_, rfl⟩
        rw [← hx] at d0 d1 d2 C
        have C := Lib.hid C
        clear hx hpx hat hvs
        go_wp2_with (go_at_fn g; refine (C.out).mono ?_; rintro e w1 ⟨rfl, q1⟩)
        go_roundw
        case rel => exact ⟨i + 1, by omega, by go_num, q.trans q1, HK2⟩
        case measure => simp [intOf]; omega
    · have HV := Lib.hid (idxU_none (l := l) (id := id) (fun j hl => HK.out j (by omega) hl))
      go_wp2
      go_ret
      exact ⟨by rw [HV.out]; rfl, q⟩
theorem placeU_any (l : List Upl) (v : Value) (id : Nat) (w : World) (hl : l.length ≤ 1000) (ht : Upls w w.heap.size v l) :
    Calls Try.prog 32 #[v, .int .u64 (id : Nat)] w fun e w' => e = .returned (.int .i64 (idxU l id)) ∧ Q w w' := by
  have q0 : Q w (w.alloc (.cells #[.int .u64 (id : Nat)] 23)) := (Q.refl w).alloc _
  have C := Lib.hid (indexFuncU_any 57 w.heap.size id l v (w.alloc (.cells #[.int .u64 (id : Nat)] 23)) eg_upl
    (fun i k A n c b q => isUpl_any i id k _ ⟨A, n, c, rfl⟩ w.heap.size b ((Below.cell q (p := ⟨w.heap.size, 0, none⟩) (by simp)).trans (by simp)) (Nat.lt_of_lt_of_le (by simp) (Q.size q))) hl (ht.on q0))
  have hmf : ∀ (fn : Fn) (first cap : Array Value) (w : World), (Instr.makeFunc fn first cap).run Try.prog w = .ok (.func fn first cap) w := fun _ _ _ _ => rfl
  go_enter Try.func32, Try.ntmps32
  go_wp2_with fail
  refine (C.out).mono ?_
  rintro e w1 ⟨rfl, q1⟩
  go_wp2
  go_ret
  exact ⟨rfl, q0.trans q1⟩
end Go.Proofs.Ytlahccmlnbdekaa
