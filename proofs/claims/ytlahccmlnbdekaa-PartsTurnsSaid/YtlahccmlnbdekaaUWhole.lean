/-
  What Whole comes to, and the contract of the program's Whole.
-/
import Derived.Test.YtlahccmlnbdekaaUIdx
namespace Go.Proofs.Ytlahccmlnbdekaa
open Go.ChangeShapes Go.WideShapes Go.ChangeAt Go.RowKit
set_option linter.unusedVariables false
set_option linter.unusedSimpArgs false
set_option maxRecDepth 100000

theorem Pces.cutTake {w : World} {B : Nat} {A : Option Addr} {n c : Nat} {l : List Pce} (h : Pces w B (.slice A n c) l) {i : Nat} (hi : i ≤ l.length) : Pces w B (.slice A i c) (l.take i) := by
  obtain ⟨A, c', e, e0, ez, eo, f⟩ := h
  injection e with e1 e2 e3
  subst e1 e2 e3
  have hlen : (l.take i).length = i := by rw [List.length_take]; omega
  refine ⟨_, _, by rw [hlen], by omega, ez, fun x hx => eo x (List.mem_of_mem_take hx), fun k hk => ?_⟩
  obtain ⟨a', e1, e2, e3⟩ := f k (by omega)
  exact ⟨a', e1, e2, by rw [List.getElem_take]; exact e3⟩
theorem Pces.cutDrop {w : World} {B : Nat} {a : Addr} {n c : Nat} {l : List Pce} (h : Pces w B (.slice (some a) n c) l) {i : Nat} (hi : i ≤ l.length) : Pces w B (.slice (some (a.add (i * 2))) (l.length - i) (c - i)) (l.drop i) := by
  obtain ⟨A, c', e, e0, ez, eo, f⟩ := h
  injection e with e1 e2 e3
  subst e1 e2 e3
  have hlen : (l.drop i).length = l.length - i := by rw [List.length_drop]
  refine ⟨_, _, by rw [hlen], by omega, (by simp), fun x hx => eo x (List.mem_of_mem_drop hx), fun k hk => ?_⟩
  rw [hlen] at hk
  obtain ⟨a', e1, e2, e3⟩ := f (i + k) (by omega)
  injection e1 with e1
  subst e1
  refine ⟨_, rfl, by rw [add_block]; exact e2, ?_⟩
  rw [add_addP, List.getElem_drop, ← Nat.add_mul]; exact e3
theorem Pces.cutEnd {w : World} {B : Nat} {A : Option Addr} {l : List Pce} (hl : l = []) : Pces w B (.slice A 0 0) l := by
  subst hl
  exact ⟨_, _, rfl, Nat.le_refl _, fun _ => rfl, by simp, fun k h => absurd h (by simp)⟩

/-- What Whole comes to: the octets, the tag, the error's number. -/
inductive WholeC (u : Upl) (l : List Pce) : List UInt8 → List UInt8 → Nat → Prop
  | arg : ¬ (okUp u ∧ 1 ≤ l.length) → WholeC u l [] [] 1
  | order : okUp u → 1 ≤ l.length → ¬ riseP l → WholeC u l [] [] 9
  | none : okUp u → 1 ≤ l.length → riseP l → l.any (lackB u.L) = true → WholeC u l [] [] 4
  | short : okUp u → 1 ≤ l.length → riseP l → l.any (lackB u.L) = false → (l.take (l.length - 1)).any (lackO u.L) = true → WholeC u l [] [] 3
  | large : okUp u → 1 ≤ l.length → riseP l → l.any (lackB u.L) = false → (l.take (l.length - 1)).any (lackO u.L) = false → 2000 < (catB u.L l).length → WholeC u l [] [] 6
  | yes : okUp u → 1 ≤ l.length → riseP l → l.any (lackB u.L) = false → (l.take (l.length - 1)).any (lackO u.L) = false → ¬ 2000 < (catB u.L l).length → WholeC u l (catB u.L l) (manyP (l.map (·.tag))) 0
theorem wholeC_ex (u : Upl) (l : List Pce) : ∃ s t e, WholeC u l s t e := by
  by_cases h : okUp u ∧ 1 ≤ l.length
  · by_cases h2 : riseP l
    · cases h3 : l.any (lackB u.L) with
      | true => exact ⟨_, _, _, .none h.1 h.2 h2 h3⟩
      | false =>
        cases h4 : (l.take (l.length - 1)).any (lackO u.L) with
        | true => exact ⟨_, _, _, .short h.1 h.2 h2 h3 h4⟩
        | false =>
          by_cases h5 : 2000 < (catB u.L l).length
          · exact ⟨_, _, _, .large h.1 h.2 h2 h3 h4 h5⟩
          · exact ⟨_, _, _, .yes h.1 h.2 h2 h3 h4 h5⟩
    · exact ⟨_, _, _, .order h.1 h.2 h2⟩
  · exact ⟨_, _, _, .arg h⟩
theorem OwnN.low {base b2 : Nat} {w : World} {v : Value} {l : List Nat} (h : OwnN base w v l) (k : b2 ≤ base) : OwnN b2 w v l := by
  rcases h.2 with ⟨rfl, h0⟩ | ⟨g, cap, cur, rfl, hb, r⟩
  · exact ⟨h.1, .inl ⟨rfl, h0⟩⟩
  · exact ⟨h.1, .inr ⟨g, cap, cur, rfl, by omega, r⟩⟩
theorem nodup_len : ∀ (l L : List Int), l.Nodup → (∀ x ∈ l, x ∈ L) → l.length ≤ L.length := by
  intro l
  induction l with
  | nil => intro L _ _; exact Nat.zero_le _
  | cons x r ih =>
    intro L hn hs
    have hx : x ∈ L := hs x (List.mem_cons_self ..)
    rw [List.nodup_cons] at hn
    have := ih (L.erase x) hn.2 fun y hy => by
      have hne : y ≠ x := fun e => hn.1 (e ▸ hy)
      exact (List.mem_erase_of_ne hne).2 (hs y (List.mem_cons_of_mem _ hy))
    rw [List.length_erase_of_mem hx] at this
    have hp := List.length_pos_of_mem hx
    simp only [List.length_cons]; omega
theorem lackB_has {L : List Prt} {x : Pce} (h : lackB L x = false) : ∃ p, PartC L x.n p true := by
  obtain ⟨p, b, hp⟩ := partC_ex L x.n
  cases b with
  | true => exact ⟨p, hp⟩
  | false => rw [lackB_no hp] at h; simp at h
theorem whole_few {u : Upl} {l : List Pce} (h : okUp u) (hr : riseP l) (hk : l.any (lackB u.L) = false) : l.length ≤ 30 := by
  have h1 : (l.map (·.n)).length ≤ (u.L.map (·.n)).length := by
    refine nodup_len _ _ ?_ ?_
    · rw [List.nodup_iff_pairwise_ne, List.pairwise_iff_getElem]
      intro i j hi hj hij
      rw [List.getElem_map, List.getElem_map]
      have := riseP_lt hr i j hij (by simpa using hj)
      omega
    · intro x hx
      rw [List.mem_map] at hx
      obtain ⟨y, hy, rfl⟩ := hx
      rw [List.any_eq_false] at hk
      obtain ⟨p, hp⟩ := lackB_has (by simpa using hk y hy)
      cases hp with
      | yes i hi e _ => rw [List.mem_map]; exact ⟨_, List.getElem_mem hi, e⟩
  rw [List.length_map, List.length_map] at h1
  have := h.2.1
  omega
set_option maxHeartbeats 8000000 in
theorem whole_any (u : Upl) (v : Value) (l : List Pce) (z : Value) (w : World) (s t : List UInt8) (e : Nat) (h : WholeC u l s t e) (hs : smU u) (hc : l.length ≤ 1000) (ht : Prts w w.heap.size v u.L) (hz : Pces w w.heap.size z l) :
    Calls Try.prog 28 #[upl u v, z] w fun r w' => r = .returned (.tuple #[.string (mk s), .string (mk t), .int .i64 (e : Nat)]) ∧ Q w w' := by
  have HT := Lib.hid ht
  have HZ := Lib.hid hz
  have HH := Lib.hid h
  obtain ⟨id, key, L⟩ := u
  have hL : L.length ≤ 1000 := hs.2.1
  have hd := hs.2.2
  simp only at ht hd
  have MAY : ∀ R, Chk (okUp ⟨id, key, L⟩) R → ∀ d, Q w d → Calls Try.prog 39 #[upl ⟨id, key, L⟩ v] d fun e w' => e = .returned (.bool R) ∧ Q d w' := fun R hR d q => mayU_any _ v d R hR hs (ht.on q)
  have RISE : ∀ R, Chk (riseP l) R → 1 ≤ l.length → ∀ d, Q w d → Calls Try.prog 47 #[z] d fun e w' => e = .returned (.bool R) ∧ Q d w' := fun R hR h1 d q => (rise_any l z d R hR h1 hc (hz.on q)).mono fun _ _ ⟨a, b⟩ => ⟨a, b.q⟩
  have LP : ∀ d, Q w d → Calls Try.prog 48 #[z, .func (.func 49) #[v] #[]] d fun e w' => e = .returned (.bool (l.any (lackB L))) ∧ Q d w' := fun d q => hasLackP_any L v l z d hL hd hc (ht.on q) (hz.on q)
  have OCT : ∀ d, Q w d → Calls Try.prog 51 #[v, z] d fun e w' => e = .returned (.string (mk (catB L l))) ∧ Q d w' := fun d q => octs_any L v l z d hL hd hc (ht.on q) (hz.on q)
  have TAG : ∀ d, Q w d → Calls Try.prog 53 #[z] d fun e w' => ∃ v', e = .returned v' ∧ OwnN d.heap.size w' v' (l.map (·.tag)) ∧ Q d w' := fun d q => tags_any l z d hc (hz.on q)
  have MANY : ∀ v' d, 1 ≤ l.length → l.length ≤ 30 → OwnN w.heap.size d v' (l.map (·.tag)) → Calls Try.prog 52 #[v'] d fun e w' => e = .returned (.tuple #[.string (mk (manyP (l.map (·.tag)))), .int .i64 0]) ∧ Q d w' := fun v' d h1 h2 o => many_yes _ v' d (by rw [List.length_map]; exact h1) (by rw [List.length_map]; omega) (o.nums fun n hn => by
    rw [List.mem_map] at hn
    obtain ⟨x, hx, rfl⟩ := hn
    exact (hz.okAll x hx).2.2)
  have hmf : ∀ (fn : Fn) (first cap : Array Value) (w : World), (Instr.makeFunc fn first cap).run Try.prog w = .ok (.func fn first cap) w := fun _ _ _ _ => rfl
  obtain ⟨A, c, rfl⟩ := ht.form
  obtain ⟨A2, c2, rfl⟩ := hz.form
  have LO : ∀ d, Q w d → Calls Try.prog 48 #[.slice A2 (l.length - 1) c2, .func (.func 50) #[.slice A L.length c] #[]] d fun e w' => e = .returned (.bool ((l.take (l.length - 1)).any (lackO L))) ∧ Q d w' := fun d q => hasLackO_any L _ _ _ d hL hd (by rw [List.length_take]; omega) (ht.on q) ((hz.on q).cutTake (by omega))
  have hcap : l.length ≤ c2 := by
    obtain ⟨A', c', e', e0, -⟩ := hz
    injection e' with e1 e2 e3
    omega
  obtain ⟨N, hn⟩ : ∃ N, L.length = N := ⟨_, rfl⟩
  obtain ⟨M, hm⟩ : ∃ M, l.length = M := ⟨_, rfl⟩
  have HM := Lib.hid hm
  rw [hn] at MAY LP OCT LO
  rw [hm] at RISE LP OCT TAG LO MANY hcap hc
  simp only [upl] at MAY ⊢
  rw [hn]
  rw [hm]
  have q00 := (Q.refl w).alloc (.cells #[.int .u64 (id : Nat), .string key, .slice A N c] 40)
  have HB : Hid (∀ b, Q (w.alloc (.cells #[.int .u64 (id : Nat), .string key, .slice A N c] 40)) b → b.cell? ⟨w.heap.size, 0, none⟩ = some (.int .u64 (id : Nat)) ∧ b.cell? ⟨w.heap.size, 1, none⟩ = some (.string key) ∧ b.cell? ⟨w.heap.size, 2, none⟩ = some (.slice A N c)) := Lib.hid fun b q => boxU_of q
  have qb := Q.refl (w.alloc (.cells #[.int .u64 (id : Nat), .string key, .slice A N c] 40))
  cases h with
  | arg h =>
    by_cases hu : okUp ⟨id, key, L⟩
    · have hM0 : M = 0 := by
        rcases Nat.eq_zero_or_pos M with e | e
        · exact e
        · exact absurd ⟨hu, by omega⟩ h
      subst hM0
      have C1 := Lib.hid (MAY true (.inl ⟨rfl, hu⟩))
      clear MAY RISE LP OCT TAG MANY LO ht hz hd hs HT HZ HH h hu
      go_enter Try.func28, Try.ntmps28
      obtain ⟨b0, b1, b2⟩ := HB.out _ qb
      go_wp2_with fail
      refine (C1.out _ q00).mono ?_
      rintro e w1 ⟨rfl, q1⟩
      have r1 := qb.trans q1
      have p1 := q00.trans q1
      clear b0 b1 b2
      obtain ⟨b0, b1, b2⟩ := HB.out _ r1
      go_wp2
      refine bodyPost_ret (v := .tuple #[.string ⟨#[]⟩, .string ⟨#[]⟩, .int .i64 1]) (by simp [results, Try.results28, go_sem]) rfl ⟨rfl, p1⟩
    · have C1 := Lib.hid (MAY false (.inr ⟨rfl, hu⟩))
      clear MAY RISE LP OCT TAG MANY LO ht hz hd hs HT HZ HH h hu
      go_enter Try.func28, Try.ntmps28
      obtain ⟨b0, b1, b2⟩ := HB.out _ qb
      go_wp2_with fail
      refine (C1.out _ q00).mono ?_
      rintro e w1 ⟨rfl, q1⟩
      have r1 := qb.trans q1
      have p1 := q00.trans q1
      clear b0 b1 b2
      obtain ⟨b0, b1, b2⟩ := HB.out _ r1
      go_wp2
      refine bodyPost_ret (v := .tuple #[.string ⟨#[]⟩, .string ⟨#[]⟩, .int .i64 1]) (by simp [results, Try.results28, go_sem]) rfl ⟨rfl, p1⟩
  | order hu h1 hr =>
    have C1 := Lib.hid (MAY true (.inl ⟨rfl, hu⟩))
    have C2 := Lib.hid (RISE false (.inr ⟨rfl, hr⟩) (by omega))
    have hM1 : ¬ (M : Int) = 0 := by omega
    clear MAY RISE LP OCT TAG MANY LO ht hz hd hs HT HZ HH hu hr
    go_enter Try.func28, Try.ntmps28
    obtain ⟨b0, b1, b2⟩ := HB.out _ qb
    go_wp2_with fail
    refine (C1.out _ q00).mono ?_
    rintro e w1 ⟨rfl, q1⟩
    have r1 := qb.trans q1
    have p1 := q00.trans q1
    clear b0 b1 b2
    obtain ⟨b0, b1, b2⟩ := HB.out _ r1
    go_wp2_with fail
    refine (C2.out _ p1).mono ?_
    rintro e w2 ⟨rfl, q2⟩
    have r2 := r1.trans q2
    have p2 := p1.trans q2
    clear b0 b1 b2
    obtain ⟨b0, b1, b2⟩ := HB.out _ r2
    go_wp2
    refine bodyPost_ret (v := .tuple #[.string ⟨#[]⟩, .string ⟨#[]⟩, .int .i64 9]) (by simp [results, Try.results28, go_sem]) rfl ⟨rfl, p2⟩
  | none hu h1 hr hk =>
    have C1 := Lib.hid (MAY true (.inl ⟨rfl, hu⟩))
    have C2 := Lib.hid (RISE true (.inl ⟨rfl, hr⟩) (by omega))
    simp only at hk
    rw [hk] at LP
    have C3 := Lib.hid LP
    have hM1 : ¬ (M : Int) = 0 := by omega
    clear MAY RISE LP OCT TAG MANY LO ht hz hd hs HT HZ HH hu hr hk
    go_enter Try.func28, Try.ntmps28
    obtain ⟨b0, b1, b2⟩ := HB.out _ qb
    go_wp2_with fail
    refine (C1.out _ q00).mono ?_
    rintro e w1 ⟨rfl, q1⟩
    have r1 := qb.trans q1
    have p1 := q00.trans q1
    clear b0 b1 b2
    obtain ⟨b0, b1, b2⟩ := HB.out _ r1
    go_wp2_with fail
    refine (C2.out _ p1).mono ?_
    rintro e w2 ⟨rfl, q2⟩
    have r2 := r1.trans q2
    have p2 := p1.trans q2
    clear b0 b1 b2
    obtain ⟨b0, b1, b2⟩ := HB.out _ r2
    go_wp2_with fail
    refine (C3.out _ p2).mono ?_
    rintro e w3 ⟨rfl, q3⟩
    have r3 := r2.trans q3
    have p3 := p2.trans q3
    clear b0 b1 b2
    obtain ⟨b0, b1, b2⟩ := HB.out _ r3
    go_wp2
    refine bodyPost_ret (v := .tuple #[.string ⟨#[]⟩, .string ⟨#[]⟩, .int .i64 4]) (by simp [results, Try.results28, go_sem]) rfl ⟨rfl, p3⟩
  | short hu h1 hr hk ho =>
    have C1 := Lib.hid (MAY true (.inl ⟨rfl, hu⟩))
    have C2 := Lib.hid (RISE true (.inl ⟨rfl, hr⟩) (by omega))
    simp only at hk ho
    rw [hm] at ho
    rw [hk] at LP
    rw [ho] at LO
    have C3 := Lib.hid LP
    have C4 := Lib.hid LO
    have hM1 : ¬ (M : Int) = 0 := by omega
    have hM2 : (M : Int) - 1 = ((M - 1 : Nat) : Int) := by omega
    clear MAY RISE LP OCT TAG MANY LO ht hz hd hs HT HZ HH hu hr hk ho
    go_enter Try.func28, Try.ntmps28
    obtain ⟨b0, b1, b2⟩ := HB.out _ qb
    go_wp2_with fail
    refine (C1.out _ q00).mono ?_
    rintro e w1 ⟨rfl, q1⟩
    have r1 := qb.trans q1
    have p1 := q00.trans q1
    clear b0 b1 b2
    obtain ⟨b0, b1, b2⟩ := HB.out _ r1
    go_wp2_with fail
    refine (C2.out _ p1).mono ?_
    rintro e w2 ⟨rfl, q2⟩
    have r2 := r1.trans q2
    have p2 := p1.trans q2
    clear b0 b1 b2
    obtain ⟨b0, b1, b2⟩ := HB.out _ r2
    go_wp2_with fail
    refine (C3.out _ p2).mono ?_
    rintro e w3 ⟨rfl, q3⟩
    have r3 := r2.trans q3
    have p3 := p2.trans q3
    clear b0 b1 b2
    obtain ⟨b0, b1, b2⟩ := HB.out _ r3
    go_wp2_with fail
    refine (C4.out _ p3).mono ?_
    rintro e w4 ⟨rfl, q4⟩
    have p4 := p3.trans q4
    go_wp2
    refine bodyPost_ret (v := .tuple #[.string ⟨#[]⟩, .string ⟨#[]⟩, .int .i64 3]) (by simp [results, Try.results28, go_sem]) rfl ⟨rfl, p4⟩
  | large hu h1 hr hk ho hbig =>
    have C1 := Lib.hid (MAY true (.inl ⟨rfl, hu⟩))
    have C2 := Lib.hid (RISE true (.inl ⟨rfl, hr⟩) (by omega))
    simp only at hk ho hbig
    rw [hm] at ho
    rw [hk] at LP
    rw [ho] at LO
    have C3 := Lib.hid LP
    have C4 := Lib.hid LO
    have C5 := Lib.hid OCT
    have hM1 : ¬ (M : Int) = 0 := by omega
    have hM2 : (M : Int) - 1 = ((M - 1 : Nat) : Int) := by omega
    have hS : 2000 < (mk (catB L l)).size := by rw [mk_size]; exact hbig
    obtain ⟨X, hX⟩ : ∃ X, X = mk (catB L l) := ⟨_, rfl⟩
    rw [← hX] at hS C5
    have hS2 : (2000 : Int) < (X.size : Int) := by omega
    clear MAY RISE LP OCT TAG MANY LO ht hz hd hs HT HZ HH hu hr hk ho hbig hX
    go_enter Try.func28, Try.ntmps28
    obtain ⟨b0, b1, b2⟩ := HB.out _ qb
    go_wp2_with fail
    refine (C1.out _ q00).mono ?_
    rintro e w1 ⟨rfl, q1⟩
    have r1 := qb.trans q1
    have p1 := q00.trans q1
    clear b0 b1 b2
    obtain ⟨b0, b1, b2⟩ := HB.out _ r1
    go_wp2_with fail
    refine (C2.out _ p1).mono ?_
    rintro e w2 ⟨rfl, q2⟩
    have r2 := r1.trans q2
    have p2 := p1.trans q2
    clear b0 b1 b2
    obtain ⟨b0, b1, b2⟩ := HB.out _ r2
    go_wp2_with fail
    refine (C3.out _ p2).mono ?_
    rintro e w3 ⟨rfl, q3⟩
    have r3 := r2.trans q3
    have p3 := p2.trans q3
    clear b0 b1 b2
    obtain ⟨b0, b1, b2⟩ := HB.out _ r3
    go_wp2_with fail
    refine (C4.out _ p3).mono ?_
    rintro e w4 ⟨rfl, q4⟩
    have p4 := p3.trans q4
    go_wp2_with fail
    refine (C5.out _ p4).mono ?_
    rintro e w5 ⟨rfl, q5⟩
    have p5 := p4.trans q5
    go_wp2
    refine bodyPost_ret (v := .tuple #[.string ⟨#[]⟩, .string ⟨#[]⟩, .int .i64 6]) (by simp [results, Try.results28, go_sem]) rfl ⟨rfl, p5⟩
  | yes hu h1 hr hk ho hbig =>
    have C1 := Lib.hid (MAY true (.inl ⟨rfl, hu⟩))
    have C2 := Lib.hid (RISE true (.inl ⟨rfl, hr⟩) (by omega))
    have h30 : M ≤ 30 := by rw [← HM.out]; exact whole_few hu hr hk
    simp only at hk ho hbig
    rw [hm] at ho
    rw [hk] at LP
    rw [ho] at LO
    have C3 := Lib.hid LP
    have C4 := Lib.hid LO
    have C5 := Lib.hid OCT
    have C6 := Lib.hid TAG
    have C7 := Lib.hid fun v' d o => MANY v' d (by omega) h30 o
    have hM1 : ¬ (M : Int) = 0 := by omega
    have hM2 : (M : Int) - 1 = ((M - 1 : Nat) : Int) := by omega
    have hS : ¬ 2000 < (mk (catB L l)).size := by rw [mk_size]; exact hbig
    obtain ⟨X, hX⟩ : ∃ X, X = mk (catB L l) := ⟨_, rfl⟩
    simp only
    obtain ⟨Y, hY⟩ : ∃ Y, Y = mk (manyP (l.map (·.tag))) := ⟨_, rfl⟩
    rw [← hX] at hS C5 ⊢
    rw [← hY] at C7 ⊢
    have hS2 : ¬ (2000 : Int) < (X.size : Int) := by omega
    clear MAY RISE LP OCT TAG MANY LO ht hz hd hs HT HZ HH hu hr hk ho hbig hX hY
    go_enter Try.func28, Try.ntmps28
    obtain ⟨b0, b1, b2⟩ := HB.out _ qb
    go_wp2_with fail
    refine (C1.out _ q00).mono ?_
    rintro e w1 ⟨rfl, q1⟩
    have r1 := qb.trans q1
    have p1 := q00.trans q1
    clear b0 b1 b2
    obtain ⟨b0, b1, b2⟩ := HB.out _ r1
    go_wp2_with fail
    refine (C2.out _ p1).mono ?_
    rintro e w2 ⟨rfl, q2⟩
    have r2 := r1.trans q2
    have p2 := p1.trans q2
    clear b0 b1 b2
    obtain ⟨b0, b1, b2⟩ := HB.out _ r2
    go_wp2_with fail
    refine (C3.out _ p2).mono ?_
    rintro e w3 ⟨rfl, q3⟩
    have r3 := r2.trans q3
    have p3 := p2.trans q3
    clear b0 b1 b2
    obtain ⟨b0, b1, b2⟩ := HB.out _ r3
    go_wp2_with fail
    refine (C4.out _ p3).mono ?_
    rintro e w4 ⟨rfl, q4⟩
    have p4 := p3.trans q4
    go_wp2_with fail
    refine (C5.out _ p4).mono ?_
    rintro e w5 ⟨rfl, q5⟩
    have p5 := p4.trans q5
    go_wp2_with fail
    refine (C6.out _ p5).mono ?_
    rintro e w6 ⟨v6, rfl, o6, q6⟩
    have p6 := p5.trans q6
    have o7 : OwnN w.heap.size w6 v6 (l.map (·.tag)) := OwnN.low o6 p5.size
    go_wp2_with fail
    refine (C7.out _ _ o7).mono ?_
    rintro e w7 ⟨rfl, q7⟩
    go_wp2
    refine bodyPost_ret (v := .tuple #[.string X, .string Y, .int .i64 0]) (by simp [results, Try.results28, go_sem]) rfl ⟨rfl, p6.trans q7⟩
end Go.Proofs.Ytlahccmlnbdekaa
