/-
  Contract of the document's Lay.
-/
import Derived.Deep.DeepCutAuto
import Derived.Deep.RegionHeld3
import Derived.Test.YtlahccmlnbdekaaUStep
namespace Go.Proofs.Ytlahccmlnbdekaa
open Go.ChangeShapes Go.WideShapes Go.ChangeAt Go.RowKit
set_option linter.unusedVariables false
set_option linter.unusedSimpArgs false
set_option maxRecDepth 100000

theorem lay_arg {l : List Upl} {id : Nat} {p : Prt} {r : List Upl} {t e : Nat} (h : LayC l id p r t e) (k : ¬ (okUps l ∧ mayP p = true)) : r = [] ∧ t = 0 ∧ e = 1 := by
  cases h with
  | arg h => exact ⟨rfl, rfl, rfl⟩
  | none h1 h2 _ => exact absurd ⟨h1, h2⟩ k
  | large _ _ h1 h2 => exact absurd ⟨h1, h2⟩ k
  | yes _ _ h1 h2 => exact absurd ⟨h1, h2⟩ k
theorem lay_none {l : List Upl} {id : Nat} {p : Prt} {r : List Upl} {t e : Nat} (h : LayC l id p r t e) (h1 : okUps l) (h2 : mayP p = true) (k : ∀ j (hl : j < l.length), l[j].id ≠ id) : r = [] ∧ t = 0 ∧ e = 4 := by
  cases h with
  | arg h => exact absurd ⟨h1, h2⟩ h
  | none _ _ _ => exact ⟨rfl, rfl, rfl⟩
  | large i hi _ _ h3 => exact absurd h3 (k i hi)
  | yes i hi _ _ h3 => exact absurd h3 (k i hi)
theorem lay_same {l : List Upl} {i j id : Nat} (hi : i < l.length) (hj : j < l.length) (ei : l[i].id = id) (ej : l[j].id = id) (mi : ∀ k (hk : k < i) (hl : k < l.length), l[k].id ≠ id) (mj : ∀ k (hk : k < j) (hl : k < l.length), l[k].id ≠ id) : i = j := by
  rcases Nat.lt_trichotomy i j with h | h | h
  · exact absurd ei (mj i h hi)
  · exact h
  · exact absurd ej (mi j h hj)
theorem lay_large {l : List Upl} {i id : Nat} {p : Prt} {r : List Upl} {t e : Nat} (h : LayC l id p r t e) (hi : i < l.length) (h1 : okUps l) (h2 : mayP p = true) (k : l[i].id = id) (m : ∀ k (hk : k < i) (hl : k < l.length), l[k].id ≠ id) (z : 30 < (withP l[i].L p).length) : r = [] ∧ t = 0 ∧ e = 6 := by
  cases h with
  | arg h => exact absurd ⟨h1, h2⟩ h
  | none _ _ h => exact absurd k (h i hi)
  | large _ _ _ _ _ => exact ⟨rfl, rfl, rfl⟩
  | yes j hj _ _ h3 h4 h5 => obtain rfl := lay_same hi hj k h3 m h4; exact absurd z h5
theorem set_map {l : List Upl} {i id : Nat} {X : Upl} (h : okUps l) (hi : i < l.length) (k : l[i].id = id) : l.set i X = l.map (fun y => if y.id = id then X else y) := by
  refine List.ext_getElem (by simp) fun j h1 h2 => ?_
  rw [List.getElem_set, List.getElem_map]
  have hj : j < l.length := by simpa using h2
  by_cases e : i = j
  · subst e; rw [if_pos rfl, if_pos k]
  · rw [if_neg e, if_neg]
    intro hh
    rcases Nat.lt_or_ge i j with g | g
    · have := okUps_lt h i j g hj; omega
    · have := okUps_lt h j i (by omega) hi; omega
theorem lay_yes {l : List Upl} {i id : Nat} {p : Prt} {r : List Upl} {t e : Nat} (h : LayC l id p r t e) (hi : i < l.length) (h1 : okUps l) (h2 : mayP p = true) (k : l[i].id = id) (m : ∀ k (hk : k < i) (hl : k < l.length), l[k].id ≠ id) (z : ¬ 30 < (withP l[i].L p).length) :
    r = l.map (fun y => if y.id = id then ⟨id, l[i].key, withP l[i].L p⟩ else y) ∧ t = crc (bl p.data) ∧ e = 0 := by
  cases h with
  | arg h => exact absurd ⟨h1, h2⟩ h
  | none _ _ h => exact absurd k (h i hi)
  | large j hj _ _ h3 h4 h5 => obtain rfl := lay_same hi hj k h3 m h4; exact absurd h5 z
  | yes j hj _ _ h3 h4 h5 =>
    obtain rfl := lay_same hi hj k h3 m h4
    refine ⟨?_, rfl, rfl⟩
    rw [set_map h1 hi k]; subst k; rfl
theorem ltF_yes {L : List Prt} {i : Nat} {x : Int} (h : i < L.length) (k : L[i].n < x) : (L.take (i + 1)).filter (fun y => decide (y.n < x)) = (L.take i).filter (fun y => decide (y.n < x)) ++ [L[i]] := by
  rw [List.take_succ_eq_append_getElem h, List.filter_append, List.filter_cons_of_pos (by simpa using k)]; rfl
theorem ltF_no {L : List Prt} {i : Nat} {x : Int} (h : i < L.length) (k : ¬ L[i].n < x) : (L.take (i + 1)).filter (fun y => decide (y.n < x)) = (L.take i).filter (fun y => decide (y.n < x)) := by
  rw [List.take_succ_eq_append_getElem h, List.filter_append, List.filter_cons_of_neg (by simpa using k)]; simp
theorem gtF_yes {L : List Prt} {i : Nat} {x : Int} (h : i < L.length) (k : x < L[i].n) : (L.take (i + 1)).filter (fun y => decide (x < y.n)) = (L.take i).filter (fun y => decide (x < y.n)) ++ [L[i]] := by
  rw [List.take_succ_eq_append_getElem h, List.filter_append, List.filter_cons_of_pos (by simpa using k)]; rfl
theorem gtF_no {L : List Prt} {i : Nat} {x : Int} (h : i < L.length) (k : ¬ x < L[i].n) : (L.take (i + 1)).filter (fun y => decide (x < y.n)) = (L.take i).filter (fun y => decide (x < y.n)) := by
  rw [List.take_succ_eq_append_getElem h, List.filter_append, List.filter_cons_of_neg (by simpa using k)]; simp
theorem F_len (L : List Prt) (i : Nat) (f : Prt → Bool) : ((L.take i).filter f).length ≤ L.length := Nat.le_trans (List.length_filter_le ..) (by rw [List.length_take]; omega)
/-- A row of the call's own, above the box into which it is stored. -/
theorem OwnP.boxed {base B : Nat} {w : World} {v : Value} {l : List Prt} (h : OwnP base w v l) (k : B < base) (i : Nat) (u : Value) : OwnP base (w.setCell ⟨B, i, none⟩ u) v l := ownsRow_set h k

theorem Below.mono1 {b : Nat} {w w' : World} (h : Below b w w') : Below b w w' := h
set_option maxHeartbeats 8000000 in
theorem rlay_core (l : List Upl) (v : Value) (id i0 : Nat) (p : Prt) (w : World) (r : List Upl) (t e : Nat) (h : LayC l id p r t e) (hp : okP p) (hs : smL l) (ht : Upls w w.heap.size v l)
    (h0 : i0 < l.length) (hok : okUps l) (hm : mayP p = true) (hid : l[i0].id = id) (hlo : ∀ j (hj : j < i0) (hl : j < l.length), l[j].id ≠ id) :
    Calls Try.prog 13 #[v, .int .u64 (id : Nat), prt p] w fun z w' => ∃ u, z = .returned (.tuple #[u, .int .u32 (t : Nat), .int .i64 (e : Nat)]) ∧ Upls w' w'.heap.size u r ∧ Q w w' := by
  have HT := Lib.hid ht
  have hl := hs.1
  have q00 := (Q.refl w).alloc (.cells #[.int .i64 p.n, .string p.data] 25)
  have F0 := rfindU_any l v id _ l[i0] 0 (.yes i0 h0 hok hid hlo) hs (ht.on q00)
  have M := Lib.hid fun d => rpart_any p d
  have hsm := hs.2 _ (List.getElem_mem h0)
  have hk0 := lay_yes h h0 hok hm hid hlo
  have hk1 := lay_large h h0 hok hm hid hlo
  have hio := okUp_id (hok.2 i0 h0).1
  have hoX := ht.okAll _ (List.getElem_mem h0)
  have hokL := ht.okIn _ (List.getElem_mem h0)
  have hd2 : p.data.size ≤ 5000 := by have := (mayP_iff.1 hm).2.2; omega
  rw [hm] at M
  obtain ⟨X, hX⟩ : ∃ X, X = l[i0] := ⟨_, rfl⟩
  rw [← hX] at F0 hsm hk0 hk1 hid hio hoX hokL
  have HX := Lib.hid hX
  obtain ⟨xi, key, L⟩ := X
  simp only at F0 hsm hk0 hk1 hid hio hoX hokL
  subst hid
  obtain ⟨x, d⟩ := p
  have HK0 := Lib.hid hk0
  have HOKL := Lib.hid hokL
  have HK1 := Lib.hid hk1
  have hL1 : L.length ≤ 1000 := hsm.2.1
  have O := Lib.hid fun w => rof_any d w hd2
  simp only [upl] at F0
  have FF := Lib.hid F0
  rw [prt] at M ⊢
  simp only at M ⊢ q00 FF
  obtain ⟨Av, cv, rfl⟩ := ht.form
  clear HX hk0 hk1 F0 ht hs h hok hm hlo h0 hX hokL hsm
  go_enter Try.func13, Try.ntmps13
  go_wp2_with fail
  refine (FF.out).mono ?_
  rintro e w1 ⟨u, rfl, hu, q1⟩
  obtain ⟨A2, c2, rfl⟩ := hu.form
  obtain ⟨n, hn⟩ : ∃ n, L.length = n := ⟨_, rfl⟩
  have HN := Lib.hid hn
  rw [hn] at hu hL1 ⊢
  clear hn FF
  have qa := q1.alloc (.cells #[.int .u64 (xi : Nat), .string key, .slice A2 n c2] 40)
  obtain ⟨b0, b1⟩ := boxP_of qa
  go_wp2_with fail
  refine (M.out _).mono ?_
  rintro e w3 ⟨rfl, q3⟩
  clear b0 b1
  have HB0 : Hid (∀ b, Q w3 b → b.cell? ⟨w.heap.size, 0, none⟩ = some (.int .i64 x) ∧ b.cell? ⟨w.heap.size, 1, none⟩ = some (.string d)) := Lib.hid fun b qb => boxP_of (qa.trans (q3.trans qb))
  have HB1 : Hid (∀ b, Q w3 b → b.cell? ⟨w1.heap.size, 2, none⟩ = some (.slice A2 n c2)) := Lib.hid fun b qb => (boxU_of (q3.trans qb)).2.2
  obtain ⟨-, k1, -⟩ := boxU_of q3
  have QW := Lib.hid (q00.trans (qa.trans q3))
  have HP := Lib.hid (hu.on (qa.trans q3))
  have AT0 : (([] : List Prt).length ≤ 0 + 0) ∧ Bx (w3.alloc (.cells #[.int .u64 (xi : Nat), .string key, .slice none 0 0] 40)) w3.heap.size 40 #[.int .u64 (xi : Nat), .string key, .slice none 0 0] ∧ OwnP (w3.heap.size + 1) (w3.alloc (.cells #[.int .u64 (xi : Nat), .string key, .slice none 0 0] 40)) (.slice none 0 0) [] ∧ Q w3 (w3.alloc (.cells #[.int .u64 (xi : Nat), .string key, .slice none 0 0] 40)) := ⟨by simp, Bx.new _ _ _, OwnP.nil _ _, (Q.refl w3).alloc _⟩
  obtain ⟨Z, hZ⟩ : ∃ Z : List Prt, Z = [] := ⟨_, rfl⟩
  have HZ0 : Hid ([] = Z ++ (L.take 0).filter (fun y => decide (y.n < x))) := Lib.hid (by rw [hZ]; simp)
  have HZE := Lib.hid hZ
  clear qa q1 q3 q00 hu M hZ
  go_wp2_with fail
  go_loopw [12] (fun I wr => ∃ (i : Nat) (A5 : Option Addr) (n5 c5 : Nat) (Y : List Prt), i ≤ n ∧ I = .int .i64 i ∧ Y.length ≤ 0 + i ∧ Bx wr w3.heap.size 40 #[.int .u64 (xi : Nat), .string key, .slice A5 n5 c5] ∧ OwnP (w3.heap.size + 1) wr (.slice A5 n5 c5) Y ∧ Q w3 wr ∧ Hid (Y = Z ++ (L.take i).filter (fun y => decide (y.n < x)))) (fun I _ => n - (intOf I).toNat)
  case atStart => exact ⟨0, _, _, _, _, Nat.zero_le _, rfl, AT0.1, AT0.2.1, AT0.2.2.1, AT0.2.2.2, HZ0⟩
  case round =>
    clear AT0 HZ0
    obtain ⟨i, A5, n5, c5, Y, hil, rfl, hYl, bx, own, q, HY⟩ := hrel
    obtain ⟨wo, hwo⟩ : ∃ x, x = wr := ⟨_, rfl⟩
    subst hwo
    obtain ⟨e0, e1⟩ := HB0.out _ q
    have e2 := HB1.out _ q
    by_cases hlt : i < n
    · have hltL : i < L.length := by have := HN.out; omega
      obtain ⟨a2, c', hv, ha, -, hat⟩ := HP.out.pick i hltL
      injection hv with e3 e4 e5
      subst e3 e5
      have hilt : (i : Int) < (n : Int) := by omega
      have HYES : L[i].n < x → Hid (Y ++ [L[i]] = Z ++ (L.take (i + 1)).filter (fun y => decide (y.n < x))) := fun h => Lib.hid (by rw [HY.out, ltF_yes hltL h, List.append_assoc])
      have HNO : ¬ (L[i].n < x) → Hid (Y = Z ++ (L.take (i + 1)).filter (fun y => decide (y.n < x))) := fun h => Lib.hid (by rw [HY.out, ltF_no hltL h])
      obtain ⟨⟨y, yd⟩, hy⟩ : ∃ y, y = L[i]'hltL := ⟨_, rfl⟩
      rw [← hy] at hat HYES HNO
      simp only at HYES HNO
      have HAT : Hid (∀ b, Q w3 b → b.cell? (a2.add (i * 2)) = some (.int .i64 y) ∧ b.cell? ⟨(a2.add (i * 2)).block, (a2.add (i * 2)).off + 1, none⟩ = some (.string yd)) := Lib.hid fun b qb => hat b qb
      clear hat e4 hy
      have KS : Hid (∀ b, Q w3 b → (fun w' => w'.cell? ⟨w.heap.size, 0, none⟩ = some (.int .i64 x) ∧ w'.cell? ⟨w1.heap.size, 2, none⟩ = some (.slice (some a2) n c2) ∧ w'.cell? (a2.add (i * 2)) = some (.int .i64 y) ∧ Q w3 w') b) := Lib.hid fun b qb => ⟨(HB0.out _ qb).1, HB1.out _ qb, (HAT.out _ qb).1, qb⟩
      by_cases hxy : y < x
      · have HW := HYES hxy
        clear HYES HNO
        go_wp2_with fail
        refine wp_region_held_drew (S := (fun w' => w'.cell? ⟨w.heap.size, 0, none⟩ = some (.int .i64 x) ∧ w'.cell? ⟨w1.heap.size, 2, none⟩ = some (.slice (some a2) n c2) ∧ w'.cell? (a2.add (i * 2)) = some (.int .i64 y) ∧ Q w3 w')) (by kernel_rfl) (KS.out _ q.drew) (fun hHeld => ?_)
        refine wpAnyH_take (i := 0) (oi := _) (v := ?_) rfl (by kernel_rfl) (by kernel_rfl) (by kernel_rfl) (fun _ _ _ h => h) (Or.inl ⟨by rfl, ?_⟩) (by assumption) ?_
        rotate_left
        · (intro wx hSw; (try dsimp only at hSw); go_simp; (try with_reducible rfl))
        (try simp only [Act.put, List.getElem_toArray, List.getElem_cons_zero, List.getElem_cons_succ, List.setIfInBounds_toArray, List.set_cons_zero, List.set_cons_succ])
        refine wpAnyH_take (i := 1) (oi := _) (v := ?_) rfl (by kernel_rfl) (by kernel_rfl) (by kernel_rfl) (fun _ _ _ h => h) (Or.inl ⟨by rfl, ?_⟩) (by assumption) ?_
        rotate_left
        · (intro wx hSw; (try dsimp only at hSw); go_simp; (try with_reducible rfl))
        (try simp only [Act.put, List.getElem_toArray, List.getElem_cons_zero, List.getElem_cons_succ, List.setIfInBounds_toArray, List.set_cons_zero, List.set_cons_succ])
        refine wpAnyH_take (i := 2) (oi := _) (v := ?_) rfl (by kernel_rfl) (by kernel_rfl) (by kernel_rfl) (fun _ _ _ h => h) (Or.inl ⟨by rfl, ?_⟩) (by assumption) ?_
        rotate_left
        · (intro wx hSw; (try dsimp only at hSw); go_simp; (try with_reducible rfl))
        (try simp only [Act.put, List.getElem_toArray, List.getElem_cons_zero, List.getElem_cons_succ, List.setIfInBounds_toArray, List.set_cons_zero, List.set_cons_succ])
        refine wpAnyH_take (i := 3) (oi := _) (v := ?_) rfl (by kernel_rfl) (by kernel_rfl) (by kernel_rfl) (fun _ _ _ h => h) (Or.inl ⟨by rfl, ?_⟩) (by assumption) ?_
        rotate_left
        · (intro wx hSw; (try dsimp only at hSw); go_simp; (try with_reducible rfl))
        (try simp only [Act.put, List.getElem_toArray, List.getElem_cons_zero, List.getElem_cons_succ, List.setIfInBounds_toArray, List.set_cons_zero, List.set_cons_succ])
        refine wpAnyH_take (i := 4) (oi := _) (v := ?_) rfl (by kernel_rfl) (by kernel_rfl) (by kernel_rfl) (fun _ _ _ h => h) (Or.inl ⟨by rfl, ?_⟩) (by assumption) ?_
        rotate_left
        · (intro wx hSw; (try dsimp only at hSw); go_simp; (try with_reducible rfl))
        (try simp only [Act.put, List.getElem_toArray, List.getElem_cons_zero, List.getElem_cons_succ, List.setIfInBounds_toArray, List.set_cons_zero, List.set_cons_succ])
        refine wpAnyH_take (i := 5) (oi := _) (v := ?_) rfl (by kernel_rfl) (by kernel_rfl) (by kernel_rfl) (fun _ _ _ h => h) (Or.inl ⟨by rfl, ?_⟩) (by assumption) ?_
        rotate_left
        · (intro wx hSw; (try dsimp only at hSw); go_simp; (try with_reducible rfl))
        (try simp only [Act.put, List.getElem_toArray, List.getElem_cons_zero, List.getElem_cons_succ, List.setIfInBounds_toArray, List.set_cons_zero, List.set_cons_succ])
        refine wpAnyH_take (i := 6) (oi := _) (v := ?_) rfl (by kernel_rfl) (by kernel_rfl) (by kernel_rfl) (fun _ _ _ h => h) (Or.inl ⟨by rfl, ?_⟩) (by assumption) ?_
        rotate_left
        · (intro wx hSw; (try dsimp only at hSw); go_simp; (try with_reducible rfl))
        (try simp only [Act.put, List.getElem_toArray, List.getElem_cons_zero, List.getElem_cons_succ, List.setIfInBounds_toArray, List.set_cons_zero, List.set_cons_succ])
        refine wpAnyH_take (i := 7) (oi := _) (v := ?_) rfl (by kernel_rfl) (by kernel_rfl) (by kernel_rfl) (fun _ _ _ h => h) (Or.inl ⟨by rfl, ?_⟩) (by assumption) ?_
        rotate_left
        · (intro wx hSw; (try dsimp only at hSw); go_simp; (try with_reducible rfl))
        (try simp only [Act.put, List.getElem_toArray, List.getElem_cons_zero, List.getElem_cons_succ, List.setIfInBounds_toArray, List.set_cons_zero, List.set_cons_succ])
        refine wpAnyH_take (i := 8) (oi := _) (v := .bool true) rfl (by kernel_rfl) (by kernel_rfl) (by kernel_rfl) (fun _ _ _ h => h) (Or.inl ⟨by rfl, ?_⟩) (by assumption) ?_
        · (intro wx hSw; (try dsimp only at hSw); go_simp; (try omega); (try simp [*]); (try omega))
        (try simp only [Act.put, List.getElem_toArray, List.getElem_cons_zero, List.getElem_cons_succ, List.setIfInBounds_toArray, List.set_cons_zero, List.set_cons_succ])
        refine wpAnyH_done (by kernel_rfl) ?_ _
        have q9 := (show (fun w' => w'.cell? ⟨w.heap.size, 0, none⟩ = some (.int .i64 x) ∧ w'.cell? ⟨w1.heap.size, 2, none⟩ = some (.slice (some a2) n c2) ∧ w'.cell? (a2.add (i * 2)) = some (.int .i64 y) ∧ Q w3 w') _ by assumption).2.2.2
        clear hHeld KS
        have bx9 := (bx.on ((Q.refl wo).drew)).on (Q.refl _).drew
        have own9 := (own.on ((Q.refl wo).drew)).on (Q.refl _).drew
        have KF : Hid (∀ b, Bx b w3.heap.size 40 #[.int .u64 (xi : Nat), .string key, .slice A5 n5 c5] → Q w3 b → (fun W => Bx W w3.heap.size 40 #[.int .u64 (xi : Nat), .string key, .slice A5 n5 c5] ∧ W.cell? ⟨w1.heap.size, 2, none⟩ = some (.slice (some a2) n c2) ∧ W.cell? (a2.add (i * 2)) = some (.int .i64 y) ∧ W.cell? ⟨(a2.add (i * 2)).block, (a2.add (i * 2)).off + 1, none⟩ = some (.string yd) ∧ Q w3 W) b) := Lib.hid fun b hb qb => ⟨hb, HB1.out _ qb, (HAT.out _ qb).1, (HAT.out _ qb).2, qb⟩
        have q9 := q9.drew
        go_wp2_with fail
        refine till_begin (F := (fun W => Bx W w3.heap.size 40 #[.int .u64 (xi : Nat), .string key, .slice A5 n5 c5] ∧ W.cell? ⟨w1.heap.size, 2, none⟩ = some (.slice (some a2) n c2) ∧ W.cell? (a2.add (i * 2)) = some (.int .i64 y) ∧ W.cell? ⟨(a2.add (i * 2)).block, (a2.add (i * 2)).off + 1, none⟩ = some (.string yd) ∧ Q w3 W)) (st := 10) (by kernel_rfl) (KF.out _ bx9 q9) (fun hTill => ?_)
        refine till_take (i := 0) (o := _) (v := ?_) rfl (by kernel_rfl) (by kernel_rfl) (by kernel_rfl) (by kernel_rfl) (by rfl) (fun _ _ _ h => h) (Or.inl ⟨by rfl, ?_⟩) (by assumption) ?_
        rotate_left
        · (intro wx hSw; skip; go_simp; (try with_reducible rfl))
        (try simp only [Act.put, List.getElem_toArray, List.getElem_cons_zero, List.getElem_cons_succ, List.setIfInBounds_toArray, List.set_cons_zero, List.set_cons_succ])
        refine till_take (i := 1) (o := _) (v := ?_) rfl (by kernel_rfl) (by kernel_rfl) (by kernel_rfl) (by kernel_rfl) (by rfl) (fun _ _ _ h => h) (Or.inl ⟨by rfl, ?_⟩) (by assumption) ?_
        rotate_left
        · (intro wx hSw; have hz := hSw.1.cell 2; simp only [List.getElem?_toArray, List.getElem?_cons_zero, List.getElem?_cons_succ] at hz; have hz1 := hSw.2.1; have hz2 := hSw.2.2.1; have hz3 := hSw.2.2.2.1; go_simp; (try with_reducible rfl))
        (try simp only [Act.put, List.getElem_toArray, List.getElem_cons_zero, List.getElem_cons_succ, List.setIfInBounds_toArray, List.set_cons_zero, List.set_cons_succ])
        refine till_take (i := 2) (o := _) (v := ?_) rfl (by kernel_rfl) (by kernel_rfl) (by kernel_rfl) (by kernel_rfl) (by rfl) (fun _ _ _ h => h) (Or.inl ⟨by rfl, ?_⟩) (by assumption) ?_
        rotate_left
        · (intro wx hSw; skip; go_simp; (try with_reducible rfl))
        (try simp only [Act.put, List.getElem_toArray, List.getElem_cons_zero, List.getElem_cons_succ, List.setIfInBounds_toArray, List.set_cons_zero, List.set_cons_succ])
        refine till_take (i := 3) (o := _) (v := ?_) rfl (by kernel_rfl) (by kernel_rfl) (by kernel_rfl) (by kernel_rfl) (by rfl) (fun _ _ _ h => h) (Or.inl ⟨by rfl, ?_⟩) (by assumption) ?_
        rotate_left
        · (intro wx hSw; have hz := hSw.1.cell 2; simp only [List.getElem?_toArray, List.getElem?_cons_zero, List.getElem?_cons_succ] at hz; have hz1 := hSw.2.1; have hz2 := hSw.2.2.1; have hz3 := hSw.2.2.2.1; go_simp; (try with_reducible rfl))
        (try simp only [Act.put, List.getElem_toArray, List.getElem_cons_zero, List.getElem_cons_succ, List.setIfInBounds_toArray, List.set_cons_zero, List.set_cons_succ])
        refine till_take (i := 4) (o := _) (v := ?_) rfl (by kernel_rfl) (by kernel_rfl) (by kernel_rfl) (by kernel_rfl) (by rfl) (fun _ _ _ h => h) (Or.inl ⟨by rfl, ?_⟩) (by assumption) ?_
        rotate_left
        · (intro wx hSw; skip; go_simp; (try with_reducible rfl))
        (try simp only [Act.put, List.getElem_toArray, List.getElem_cons_zero, List.getElem_cons_succ, List.setIfInBounds_toArray, List.set_cons_zero, List.set_cons_succ])
        refine till_take (i := 5) (o := _) (v := ?_) rfl (by kernel_rfl) (by kernel_rfl) (by kernel_rfl) (by kernel_rfl) (by rfl) (fun _ _ _ h => h) (Or.inl ⟨by rfl, ?_⟩) (by assumption) ?_
        rotate_left
        · (intro wx hSw; skip; go_simp; (try with_reducible rfl))
        (try simp only [Act.put, List.getElem_toArray, List.getElem_cons_zero, List.getElem_cons_succ, List.setIfInBounds_toArray, List.set_cons_zero, List.set_cons_succ])
        refine till_take (i := 6) (o := _) (v := ?_) rfl (by kernel_rfl) (by kernel_rfl) (by kernel_rfl) (by kernel_rfl) (by rfl) (fun _ _ _ h => h) (Or.inl ⟨by rfl, ?_⟩) (by assumption) ?_
        rotate_left
        · (intro wx hSw; have hz := hSw.1.cell 2; simp only [List.getElem?_toArray, List.getElem?_cons_zero, List.getElem?_cons_succ] at hz; have hz1 := hSw.2.1; have hz2 := hSw.2.2.1; have hz3 := hSw.2.2.2.1; go_simp; (try with_reducible rfl))
        (try simp only [Act.put, List.getElem_toArray, List.getElem_cons_zero, List.getElem_cons_succ, List.setIfInBounds_toArray, List.set_cons_zero, List.set_cons_succ])
        refine till_next (i := 7) (o := _) (by kernel_rfl) rfl (fun K hK => ?_)
        go_simp
        have q11 := q9.alloc (.cells #[.int .i64 y, .string yd] 25)
        have bx11 := bx9.alloc (.cells #[.int .i64 y, .string yd] 25)
        have own11 := own9.on ((Q.refl _).alloc (.cells #[.int .i64 y, .string yd] 25))
        refine hK.out _ _ (KF.out _ bx11 q11) (fun hTill => ?_)
        clear hK K
        (try simp only [Act.put, List.getElem_toArray, List.getElem_cons_zero, List.getElem_cons_succ, List.setIfInBounds_toArray, List.set_cons_zero, List.set_cons_succ])
        refine till_next (i := 8) (o := _) (by kernel_rfl) rfl (fun K hK => ?_)
        rw [if_pos (by rfl)]
        refine wp_snoc_part _ _ _ 38 Try.underlying38 rfl (w3.heap.size + 1) _ _ _ ⟨y, yd⟩ rfl rfl (cells_onepart _ ⟨y, yd⟩ _) own11 ?hb ?hl ?_
        case hb => have h5 := bx9.lt; have h6 := bx.lt; simp; omega
        case hl => omega
        intro v8 w8 o8 g8
        have q12 : Q w3 w8 := q11.grown g8 (by have h5 := bx9.lt; have h6 := bx.lt; simp; omega) (fun k hk => Nat.le_of_succ_le (World.ownsRow.lt own11 k hk).1)
        have bx12 := bx11.same (g8.block _ bx11.lt (fun e => by have := (World.ownsRow.lt own11 _ e.symm).1; omega))
        obtain ⟨A8, n8, c8, rfl⟩ : ∃ A n c, v8 = .slice A n c := by obtain ⟨A, c, e⟩ := o8.form; exact ⟨A, _, c, e⟩
        refine hK.out _ _ (KF.out _ bx12 q12) (fun hTill => ?_)
        clear hK K
        (try simp only [Act.put, List.getElem_toArray, List.getElem_cons_zero, List.getElem_cons_succ, List.setIfInBounds_toArray, List.set_cons_zero, List.set_cons_succ])
        have z2 := bx12.cell 2
        have zf := bx12.frozen 2
        simp only [List.getElem?_toArray, List.getElem?_cons_zero, List.getElem?_cons_succ] at z2
        refine till_take (i := 9) (o := _) (v := ?_) rfl (by kernel_rfl) (by kernel_rfl) (by kernel_rfl) (by kernel_rfl) (by rfl) (fun _ _ _ h => h) (Or.inl ⟨by rfl, ?_⟩) (by assumption) ?_
        rotate_left
        · (intro wx hSw; skip; go_simp; (try with_reducible rfl))
        (try simp only [Act.put, List.getElem_toArray, List.getElem_cons_zero, List.getElem_cons_succ, List.setIfInBounds_toArray, List.set_cons_zero, List.set_cons_succ])
        refine till_last (i := 10) (o := _) (by kernel_rfl) rfl (by rfl) (fun K hK => ?_)
        go_simp
        refine hK.out _ _ ?_
        clear hK K
        (try simp only [Act.put, List.getElem_toArray, List.getElem_cons_zero, List.getElem_cons_succ, List.setIfInBounds_toArray, List.set_cons_zero, List.set_cons_succ])
        refine till_done (by kernel_rfl) ?_ _
        have bxE := bx12.set 2 (.slice A8 n8 c8)
        have oE : OwnP (w3.heap.size + 1) _ _ _ := ownsRow_set (b := w3.heap.size) (i := 2) (u := .slice A8 n8 c8) o8 (by omega)
        have qE := Q.set q12 (Nat.le_refl _) (k := 2) (.slice A8 n8 c8)
        generalize w8.setCell ⟨w3.heap.size, 2, none⟩ (.slice A8 n8 c8) = wE at bxE oE qE ⊢
        clear KF bx9 own9 q9 bx11 own11 q11 o8 g8 q12 bx12 z2 zf
        go_wp2_with fail
        go_roundw
        case rel => exact ⟨i + 1, _, _, _, _, by omega, by go_num, by simp; omega, bxE, oE, qE, HW⟩
        case measure => simp [intOf]; omega
      · have HW := HNO hxy
        clear HYES HNO
        go_wp2_with fail
        refine wp_region_held_drew (S := (fun w' => w'.cell? ⟨w.heap.size, 0, none⟩ = some (.int .i64 x) ∧ w'.cell? ⟨w1.heap.size, 2, none⟩ = some (.slice (some a2) n c2) ∧ w'.cell? (a2.add (i * 2)) = some (.int .i64 y) ∧ Q w3 w')) (by kernel_rfl) (KS.out _ q.drew) (fun hHeld => ?_)
        refine wpAnyH_take (i := 0) (oi := _) (v := ?_) rfl (by kernel_rfl) (by kernel_rfl) (by kernel_rfl) (fun _ _ _ h => h) (Or.inl ⟨by rfl, ?_⟩) (by assumption) ?_
        rotate_left
        · (intro wx hSw; (try dsimp only at hSw); go_simp; (try with_reducible rfl))
        (try simp only [Act.put, List.getElem_toArray, List.getElem_cons_zero, List.getElem_cons_succ, List.setIfInBounds_toArray, List.set_cons_zero, List.set_cons_succ])
        refine wpAnyH_take (i := 1) (oi := _) (v := ?_) rfl (by kernel_rfl) (by kernel_rfl) (by kernel_rfl) (fun _ _ _ h => h) (Or.inl ⟨by rfl, ?_⟩) (by assumption) ?_
        rotate_left
        · (intro wx hSw; (try dsimp only at hSw); go_simp; (try with_reducible rfl))
        (try simp only [Act.put, List.getElem_toArray, List.getElem_cons_zero, List.getElem_cons_succ, List.setIfInBounds_toArray, List.set_cons_zero, List.set_cons_succ])
        refine wpAnyH_take (i := 2) (oi := _) (v := ?_) rfl (by kernel_rfl) (by kernel_rfl) (by kernel_rfl) (fun _ _ _ h => h) (Or.inl ⟨by rfl, ?_⟩) (by assumption) ?_
        rotate_left
        · (intro wx hSw; (try dsimp only at hSw); go_simp; (try with_reducible rfl))
        (try simp only [Act.put, List.getElem_toArray, List.getElem_cons_zero, List.getElem_cons_succ, List.setIfInBounds_toArray, List.set_cons_zero, List.set_cons_succ])
        refine wpAnyH_take (i := 3) (oi := _) (v := ?_) rfl (by kernel_rfl) (by kernel_rfl) (by kernel_rfl) (fun _ _ _ h => h) (Or.inl ⟨by rfl, ?_⟩) (by assumption) ?_
        rotate_left
        · (intro wx hSw; (try dsimp only at hSw); go_simp; (try with_reducible rfl))
        (try simp only [Act.put, List.getElem_toArray, List.getElem_cons_zero, List.getElem_cons_succ, List.setIfInBounds_toArray, List.set_cons_zero, List.set_cons_succ])
        refine wpAnyH_take (i := 4) (oi := _) (v := ?_) rfl (by kernel_rfl) (by kernel_rfl) (by kernel_rfl) (fun _ _ _ h => h) (Or.inl ⟨by rfl, ?_⟩) (by assumption) ?_
        rotate_left
        · (intro wx hSw; (try dsimp only at hSw); go_simp; (try with_reducible rfl))
        (try simp only [Act.put, List.getElem_toArray, List.getElem_cons_zero, List.getElem_cons_succ, List.setIfInBounds_toArray, List.set_cons_zero, List.set_cons_succ])
        refine wpAnyH_take (i := 5) (oi := _) (v := ?_) rfl (by kernel_rfl) (by kernel_rfl) (by kernel_rfl) (fun _ _ _ h => h) (Or.inl ⟨by rfl, ?_⟩) (by assumption) ?_
        rotate_left
        · (intro wx hSw; (try dsimp only at hSw); go_simp; (try with_reducible rfl))
        (try simp only [Act.put, List.getElem_toArray, List.getElem_cons_zero, List.getElem_cons_succ, List.setIfInBounds_toArray, List.set_cons_zero, List.set_cons_succ])
        refine wpAnyH_take (i := 6) (oi := _) (v := ?_) rfl (by kernel_rfl) (by kernel_rfl) (by kernel_rfl) (fun _ _ _ h => h) (Or.inl ⟨by rfl, ?_⟩) (by assumption) ?_
        rotate_left
        · (intro wx hSw; (try dsimp only at hSw); go_simp; (try with_reducible rfl))
        (try simp only [Act.put, List.getElem_toArray, List.getElem_cons_zero, List.getElem_cons_succ, List.setIfInBounds_toArray, List.set_cons_zero, List.set_cons_succ])
        refine wpAnyH_take (i := 7) (oi := _) (v := ?_) rfl (by kernel_rfl) (by kernel_rfl) (by kernel_rfl) (fun _ _ _ h => h) (Or.inl ⟨by rfl, ?_⟩) (by assumption) ?_
        rotate_left
        · (intro wx hSw; (try dsimp only at hSw); go_simp; (try with_reducible rfl))
        (try simp only [Act.put, List.getElem_toArray, List.getElem_cons_zero, List.getElem_cons_succ, List.setIfInBounds_toArray, List.set_cons_zero, List.set_cons_succ])
        refine wpAnyH_take (i := 8) (oi := _) (v := .bool false) rfl (by kernel_rfl) (by kernel_rfl) (by kernel_rfl) (fun _ _ _ h => h) (Or.inl ⟨by rfl, ?_⟩) (by assumption) ?_
        · (intro wx hSw; (try dsimp only at hSw); go_simp; (try omega); (try simp [*]); (try omega))
        (try simp only [Act.put, List.getElem_toArray, List.getElem_cons_zero, List.getElem_cons_succ, List.setIfInBounds_toArray, List.set_cons_zero, List.set_cons_succ])
        refine wpAnyH_done (by kernel_rfl) ?_ _
        have q9 := (show (fun w' => w'.cell? ⟨w.heap.size, 0, none⟩ = some (.int .i64 x) ∧ w'.cell? ⟨w1.heap.size, 2, none⟩ = some (.slice (some a2) n c2) ∧ w'.cell? (a2.add (i * 2)) = some (.int .i64 y) ∧ Q w3 w') _ by assumption).2.2.2
        clear hHeld KS
        have bx9 := bx.on ((Q.refl wo).drew)
        have own9 := own.on ((Q.refl wo).drew)
        go_wp2_with fail
        go_roundw
        case rel => exact ⟨i + 1, _, _, _, _, by omega, by go_num, by omega, bx9, own9, q9, HW⟩
        case measure => simp [intOf]; omega
    · have hilt : ¬ (i : Int) < (n : Int) := by omega
      have HYF : Hid (Y = L.filter (fun y => decide (y.n < x))) := Lib.hid (by rw [HY.out, HZE.out, List.take_of_length_le (by have := HN.out; omega)]; rfl)
      have x2 := bx.cell 2
      simp only [List.getElem?_toArray, List.getElem?_cons_zero, List.getElem?_cons_succ] at x2
      have bx9 := bx.alloc (.cells #[.int .i64 x, .string d] 25)
      have own9 := own.on ((Q.refl _).alloc (.cells #[.int .i64 x, .string d] 25))
      have q9 := q.alloc (.cells #[.int .i64 x, .string d] 25)
      have h5 := bx.lt
      go_wp2_with (at_builtin; refine wpList_snoc_part _ rfl _ _ 38 25 Try.underlying38 rfl (w3.heap.size + 1) wo.heap.size _ Y ⟨x, d⟩ rfl rfl (cells_onepart wo ⟨x, d⟩ 25) own9 ?hb ?hl ?_; (case hb => simp; omega); (case hl => omega); intro v8 w8 o8 g8; have q8 : Q w3 w8 := q9.grown g8 (by simp; omega) (fun k hk => Nat.le_of_succ_le (World.ownsRow.lt own9 k hk).1); have bx8 := bx9.same (g8.block _ bx9.lt (fun e => by have := (World.ownsRow.lt own9 _ e.symm).1; omega)); have z2 := bx8.cell 2; have zf := bx8.frozen 2; simp only [List.getElem?_toArray, List.getElem?_cons_zero, List.getElem?_cons_succ] at z2; obtain ⟨A8, n8, c8, rfl⟩ : ∃ A n c, v8 = .slice A n c := (by obtain ⟨A, c, e⟩ := o8.form; exact ⟨A, _, c, e⟩))
      have bxE := bx8.set 2 (.slice A8 n8 c8)
      have oE : OwnP (w3.heap.size + 1) _ _ _ := ownsRow_set (b := w3.heap.size) (i := 2) (u := .slice A8 n8 c8) o8 (by omega)
      have qE := Q.set q8 (Nat.le_refl _) (k := 2) (.slice A8 n8 c8)
      generalize w8.setCell ⟨w3.heap.size, 2, none⟩ (.slice A8 n8 c8) = wE at bxE oE qE ⊢
      have hlen2 : (Y ++ [(⟨x, d⟩ : Prt)]).length ≤ 1001 + 0 := by rw [List.length_append, List.length_singleton]; omega
      obtain ⟨Z2, hZ2⟩ : ∃ Z2, Z2 = Y ++ [(⟨x, d⟩ : Prt)] := ⟨_, rfl⟩
      rw [← hZ2] at oE hlen2
      have HZ2 : Hid (Z2 = L.filter (fun y => decide (y.n < x)) ++ [⟨x, d⟩]) := Lib.hid (by rw [hZ2, HYF.out])
      clear bx9 own9 q9 o8 g8 q8 bx8 z2 zf bx own q HY HYF hYl hil hlt e0 e1 e2 x2 h5 hZ2
      have AT0 := And.intro hlen2 (And.intro bxE (And.intro oE qE))
      obtain ⟨Z, hZ⟩ : ∃ Z, Z = Z2 := ⟨_, rfl⟩
      have HZ0 : Hid (Z2 = Z ++ (L.take 0).filter (fun y => decide (x < y.n))) := Lib.hid (by rw [hZ]; simp)
      have HZE : Hid (Z = L.filter (fun y => decide (y.n < x)) ++ [⟨x, d⟩]) := Lib.hid (by rw [hZ, HZ2.out])
      clear hlen2 bxE oE qE hZ HZ2
      go_wp2_with fail
      go_loopw [13] (fun I wr => ∃ (i : Nat) (A5 : Option Addr) (n5 c5 : Nat) (Y : List Prt), i ≤ n ∧ I = .int .i64 i ∧ Y.length ≤ 1001 + i ∧ Bx wr w3.heap.size 40 #[.int .u64 (xi : Nat), .string key, .slice A5 n5 c5] ∧ OwnP (w3.heap.size + 1) wr (.slice A5 n5 c5) Y ∧ Q w3 wr ∧ Hid (Y = Z ++ (L.take i).filter (fun y => decide (x < y.n)))) (fun I _ => n - (intOf I).toNat)
      case atStart => exact ⟨0, _, _, _, _, Nat.zero_le _, rfl, AT0.1, AT0.2.1, AT0.2.2.1, AT0.2.2.2, HZ0⟩
      case round =>
        clear AT0 HZ0
        obtain ⟨i, A5, n5, c5, Y, hil, rfl, hYl, bx, own, q, HY⟩ := hrel
        obtain ⟨wo, hwo⟩ : ∃ x, x = wr := ⟨_, rfl⟩
        subst hwo
        obtain ⟨e0, e1⟩ := HB0.out _ q
        have e2 := HB1.out _ q
        by_cases hlt : i < n
        · have hltL : i < L.length := by have := HN.out; omega
          obtain ⟨a2, c', hv, ha, -, hat⟩ := HP.out.pick i hltL
          injection hv with e3 e4 e5
          subst e3 e5
          have hilt : (i : Int) < (n : Int) := by omega
          have HYES : x < L[i].n → Hid (Y ++ [L[i]] = Z ++ (L.take (i + 1)).filter (fun y => decide (x < y.n))) := fun h => Lib.hid (by rw [HY.out, gtF_yes hltL h, List.append_assoc])
          have HNO : ¬ (x < L[i].n) → Hid (Y = Z ++ (L.take (i + 1)).filter (fun y => decide (x < y.n))) := fun h => Lib.hid (by rw [HY.out, gtF_no hltL h])
          obtain ⟨⟨y, yd⟩, hy⟩ : ∃ y, y = L[i]'hltL := ⟨_, rfl⟩
          rw [← hy] at hat HYES HNO
          simp only at HYES HNO
          have HAT : Hid (∀ b, Q w3 b → b.cell? (a2.add (i * 2)) = some (.int .i64 y) ∧ b.cell? ⟨(a2.add (i * 2)).block, (a2.add (i * 2)).off + 1, none⟩ = some (.string yd)) := Lib.hid fun b qb => hat b qb
          clear hat e4 hy
          have KS : Hid (∀ b, Q w3 b → (fun w' => w'.cell? ⟨w.heap.size, 0, none⟩ = some (.int .i64 x) ∧ w'.cell? ⟨w1.heap.size, 2, none⟩ = some (.slice (some a2) n c2) ∧ w'.cell? (a2.add (i * 2)) = some (.int .i64 y) ∧ Q w3 w') b) := Lib.hid fun b qb => ⟨(HB0.out _ qb).1, HB1.out _ qb, (HAT.out _ qb).1, qb⟩
          by_cases hxy : x < y
          · have HW := HYES hxy
            clear HYES HNO
            go_wp2_with fail
            refine wp_region_held_drew (S := (fun w' => w'.cell? ⟨w.heap.size, 0, none⟩ = some (.int .i64 x) ∧ w'.cell? ⟨w1.heap.size, 2, none⟩ = some (.slice (some a2) n c2) ∧ w'.cell? (a2.add (i * 2)) = some (.int .i64 y) ∧ Q w3 w')) (by kernel_rfl) (KS.out _ q.drew) (fun hHeld => ?_)
            refine wpAnyH_take (i := 0) (oi := _) (v := ?_) rfl (by kernel_rfl) (by kernel_rfl) (by kernel_rfl) (fun _ _ _ h => h) (Or.inl ⟨by rfl, ?_⟩) (by assumption) ?_
            rotate_left
            · (intro wx hSw; (try dsimp only at hSw); go_simp; (try with_reducible rfl))
            (try simp only [Act.put, List.getElem_toArray, List.getElem_cons_zero, List.getElem_cons_succ, List.setIfInBounds_toArray, List.set_cons_zero, List.set_cons_succ])
            refine wpAnyH_take (i := 1) (oi := _) (v := ?_) rfl (by kernel_rfl) (by kernel_rfl) (by kernel_rfl) (fun _ _ _ h => h) (Or.inl ⟨by rfl, ?_⟩) (by assumption) ?_
            rotate_left
            · (intro wx hSw; (try dsimp only at hSw); go_simp; (try with_reducible rfl))
            (try simp only [Act.put, List.getElem_toArray, List.getElem_cons_zero, List.getElem_cons_succ, List.setIfInBounds_toArray, List.set_cons_zero, List.set_cons_succ])
            refine wpAnyH_take (i := 2) (oi := _) (v := ?_) rfl (by kernel_rfl) (by kernel_rfl) (by kernel_rfl) (fun _ _ _ h => h) (Or.inl ⟨by rfl, ?_⟩) (by assumption) ?_
            rotate_left
            · (intro wx hSw; (try dsimp only at hSw); go_simp; (try with_reducible rfl))
            (try simp only [Act.put, List.getElem_toArray, List.getElem_cons_zero, List.getElem_cons_succ, List.setIfInBounds_toArray, List.set_cons_zero, List.set_cons_succ])
            refine wpAnyH_take (i := 3) (oi := _) (v := ?_) rfl (by kernel_rfl) (by kernel_rfl) (by kernel_rfl) (fun _ _ _ h => h) (Or.inl ⟨by rfl, ?_⟩) (by assumption) ?_
            rotate_left
            · (intro wx hSw; (try dsimp only at hSw); go_simp; (try with_reducible rfl))
            (try simp only [Act.put, List.getElem_toArray, List.getElem_cons_zero, List.getElem_cons_succ, List.setIfInBounds_toArray, List.set_cons_zero, List.set_cons_succ])
            refine wpAnyH_take (i := 4) (oi := _) (v := ?_) rfl (by kernel_rfl) (by kernel_rfl) (by kernel_rfl) (fun _ _ _ h => h) (Or.inl ⟨by rfl, ?_⟩) (by assumption) ?_
            rotate_left
            · (intro wx hSw; (try dsimp only at hSw); go_simp; (try with_reducible rfl))
            (try simp only [Act.put, List.getElem_toArray, List.getElem_cons_zero, List.getElem_cons_succ, List.setIfInBounds_toArray, List.set_cons_zero, List.set_cons_succ])
            refine wpAnyH_take (i := 5) (oi := _) (v := ?_) rfl (by kernel_rfl) (by kernel_rfl) (by kernel_rfl) (fun _ _ _ h => h) (Or.inl ⟨by rfl, ?_⟩) (by assumption) ?_
            rotate_left
            · (intro wx hSw; (try dsimp only at hSw); go_simp; (try with_reducible rfl))
            (try simp only [Act.put, List.getElem_toArray, List.getElem_cons_zero, List.getElem_cons_succ, List.setIfInBounds_toArray, List.set_cons_zero, List.set_cons_succ])
            refine wpAnyH_take (i := 6) (oi := _) (v := ?_) rfl (by kernel_rfl) (by kernel_rfl) (by kernel_rfl) (fun _ _ _ h => h) (Or.inl ⟨by rfl, ?_⟩) (by assumption) ?_
            rotate_left
            · (intro wx hSw; (try dsimp only at hSw); go_simp; (try with_reducible rfl))
            (try simp only [Act.put, List.getElem_toArray, List.getElem_cons_zero, List.getElem_cons_succ, List.setIfInBounds_toArray, List.set_cons_zero, List.set_cons_succ])
            refine wpAnyH_take (i := 7) (oi := _) (v := ?_) rfl (by kernel_rfl) (by kernel_rfl) (by kernel_rfl) (fun _ _ _ h => h) (Or.inl ⟨by rfl, ?_⟩) (by assumption) ?_
            rotate_left
            · (intro wx hSw; (try dsimp only at hSw); go_simp; (try with_reducible rfl))
            (try simp only [Act.put, List.getElem_toArray, List.getElem_cons_zero, List.getElem_cons_succ, List.setIfInBounds_toArray, List.set_cons_zero, List.set_cons_succ])
            refine wpAnyH_take (i := 8) (oi := _) (v := .bool true) rfl (by kernel_rfl) (by kernel_rfl) (by kernel_rfl) (fun _ _ _ h => h) (Or.inl ⟨by rfl, ?_⟩) (by assumption) ?_
            · (intro wx hSw; (try dsimp only at hSw); go_simp; (try omega); (try simp [*]); (try omega))
            (try simp only [Act.put, List.getElem_toArray, List.getElem_cons_zero, List.getElem_cons_succ, List.setIfInBounds_toArray, List.set_cons_zero, List.set_cons_succ])
            refine wpAnyH_done (by kernel_rfl) ?_ _
            have q9 := (show (fun w' => w'.cell? ⟨w.heap.size, 0, none⟩ = some (.int .i64 x) ∧ w'.cell? ⟨w1.heap.size, 2, none⟩ = some (.slice (some a2) n c2) ∧ w'.cell? (a2.add (i * 2)) = some (.int .i64 y) ∧ Q w3 w') _ by assumption).2.2.2
            clear hHeld KS
            have bx9 := (bx.on ((Q.refl wo).drew)).on (Q.refl _).drew
            have own9 := (own.on ((Q.refl wo).drew)).on (Q.refl _).drew
            have KF : Hid (∀ b, Bx b w3.heap.size 40 #[.int .u64 (xi : Nat), .string key, .slice A5 n5 c5] → Q w3 b → (fun W => Bx W w3.heap.size 40 #[.int .u64 (xi : Nat), .string key, .slice A5 n5 c5] ∧ W.cell? ⟨w1.heap.size, 2, none⟩ = some (.slice (some a2) n c2) ∧ W.cell? (a2.add (i * 2)) = some (.int .i64 y) ∧ W.cell? ⟨(a2.add (i * 2)).block, (a2.add (i * 2)).off + 1, none⟩ = some (.string yd) ∧ Q w3 W) b) := Lib.hid fun b hb qb => ⟨hb, HB1.out _ qb, (HAT.out _ qb).1, (HAT.out _ qb).2, qb⟩
            have q9 := q9.drew
            go_wp2_with fail
            refine till_begin (F := (fun W => Bx W w3.heap.size 40 #[.int .u64 (xi : Nat), .string key, .slice A5 n5 c5] ∧ W.cell? ⟨w1.heap.size, 2, none⟩ = some (.slice (some a2) n c2) ∧ W.cell? (a2.add (i * 2)) = some (.int .i64 y) ∧ W.cell? ⟨(a2.add (i * 2)).block, (a2.add (i * 2)).off + 1, none⟩ = some (.string yd) ∧ Q w3 W)) (st := 10) (by kernel_rfl) (KF.out _ bx9 q9) (fun hTill => ?_)
            refine till_take (i := 0) (o := _) (v := ?_) rfl (by kernel_rfl) (by kernel_rfl) (by kernel_rfl) (by kernel_rfl) (by rfl) (fun _ _ _ h => h) (Or.inl ⟨by rfl, ?_⟩) (by assumption) ?_
            rotate_left
            · (intro wx hSw; skip; go_simp; (try with_reducible rfl))
            (try simp only [Act.put, List.getElem_toArray, List.getElem_cons_zero, List.getElem_cons_succ, List.setIfInBounds_toArray, List.set_cons_zero, List.set_cons_succ])
            refine till_take (i := 1) (o := _) (v := ?_) rfl (by kernel_rfl) (by kernel_rfl) (by kernel_rfl) (by kernel_rfl) (by rfl) (fun _ _ _ h => h) (Or.inl ⟨by rfl, ?_⟩) (by assumption) ?_
            rotate_left
            · (intro wx hSw; have hz := hSw.1.cell 2; simp only [List.getElem?_toArray, List.getElem?_cons_zero, List.getElem?_cons_succ] at hz; have hz1 := hSw.2.1; have hz2 := hSw.2.2.1; have hz3 := hSw.2.2.2.1; go_simp; (try with_reducible rfl))
            (try simp only [Act.put, List.getElem_toArray, List.getElem_cons_zero, List.getElem_cons_succ, List.setIfInBounds_toArray, List.set_cons_zero, List.set_cons_succ])
            refine till_take (i := 2) (o := _) (v := ?_) rfl (by kernel_rfl) (by kernel_rfl) (by kernel_rfl) (by kernel_rfl) (by rfl) (fun _ _ _ h => h) (Or.inl ⟨by rfl, ?_⟩) (by assumption) ?_
            rotate_left
            · (intro wx hSw; skip; go_simp; (try with_reducible rfl))
            (try simp only [Act.put, List.getElem_toArray, List.getElem_cons_zero, List.getElem_cons_succ, List.setIfInBounds_toArray, List.set_cons_zero, List.set_cons_succ])
            refine till_take (i := 3) (o := _) (v := ?_) rfl (by kernel_rfl) (by kernel_rfl) (by kernel_rfl) (by kernel_rfl) (by rfl) (fun _ _ _ h => h) (Or.inl ⟨by rfl, ?_⟩) (by assumption) ?_
            rotate_left
            · (intro wx hSw; have hz := hSw.1.cell 2; simp only [List.getElem?_toArray, List.getElem?_cons_zero, List.getElem?_cons_succ] at hz; have hz1 := hSw.2.1; have hz2 := hSw.2.2.1; have hz3 := hSw.2.2.2.1; go_simp; (try with_reducible rfl))
            (try simp only [Act.put, List.getElem_toArray, List.getElem_cons_zero, List.getElem_cons_succ, List.setIfInBounds_toArray, List.set_cons_zero, List.set_cons_succ])
            refine till_take (i := 4) (o := _) (v := ?_) rfl (by kernel_rfl) (by kernel_rfl) (by kernel_rfl) (by kernel_rfl) (by rfl) (fun _ _ _ h => h) (Or.inl ⟨by rfl, ?_⟩) (by assumption) ?_
            rotate_left
            · (intro wx hSw; skip; go_simp; (try with_reducible rfl))
            (try simp only [Act.put, List.getElem_toArray, List.getElem_cons_zero, List.getElem_cons_succ, List.setIfInBounds_toArray, List.set_cons_zero, List.set_cons_succ])
            refine till_take (i := 5) (o := _) (v := ?_) rfl (by kernel_rfl) (by kernel_rfl) (by kernel_rfl) (by kernel_rfl) (by rfl) (fun _ _ _ h => h) (Or.inl ⟨by rfl, ?_⟩) (by assumption) ?_
            rotate_left
            · (intro wx hSw; skip; go_simp; (try with_reducible rfl))
            (try simp only [Act.put, List.getElem_toArray, List.getElem_cons_zero, List.getElem_cons_succ, List.setIfInBounds_toArray, List.set_cons_zero, List.set_cons_succ])
            refine till_take (i := 6) (o := _) (v := ?_) rfl (by kernel_rfl) (by kernel_rfl) (by kernel_rfl) (by kernel_rfl) (by rfl) (fun _ _ _ h => h) (Or.inl ⟨by rfl, ?_⟩) (by assumption) ?_
            rotate_left
            · (intro wx hSw; have hz := hSw.1.cell 2; simp only [List.getElem?_toArray, List.getElem?_cons_zero, List.getElem?_cons_succ] at hz; have hz1 := hSw.2.1; have hz2 := hSw.2.2.1; have hz3 := hSw.2.2.2.1; go_simp; (try with_reducible rfl))
            (try simp only [Act.put, List.getElem_toArray, List.getElem_cons_zero, List.getElem_cons_succ, List.setIfInBounds_toArray, List.set_cons_zero, List.set_cons_succ])
            refine till_next (i := 7) (o := _) (by kernel_rfl) rfl (fun K hK => ?_)
            go_simp
            have q11 := q9.alloc (.cells #[.int .i64 y, .string yd] 25)
            have bx11 := bx9.alloc (.cells #[.int .i64 y, .string yd] 25)
            have own11 := own9.on ((Q.refl _).alloc (.cells #[.int .i64 y, .string yd] 25))
            refine hK.out _ _ (KF.out _ bx11 q11) (fun hTill => ?_)
            clear hK K
            (try simp only [Act.put, List.getElem_toArray, List.getElem_cons_zero, List.getElem_cons_succ, List.setIfInBounds_toArray, List.set_cons_zero, List.set_cons_succ])
            refine till_next (i := 8) (o := _) (by kernel_rfl) rfl (fun K hK => ?_)
            rw [if_pos (by rfl)]
            refine wp_snoc_part _ _ _ 38 Try.underlying38 rfl (w3.heap.size + 1) _ _ _ ⟨y, yd⟩ rfl rfl (cells_onepart _ ⟨y, yd⟩ _) own11 ?hb ?hl ?_
            case hb => have h5 := bx9.lt; have h6 := bx.lt; simp; omega
            case hl => omega
            intro v8 w8 o8 g8
            have q12 : Q w3 w8 := q11.grown g8 (by have h5 := bx9.lt; have h6 := bx.lt; simp; omega) (fun k hk => Nat.le_of_succ_le (World.ownsRow.lt own11 k hk).1)
            have bx12 := bx11.same (g8.block _ bx11.lt (fun e => by have := (World.ownsRow.lt own11 _ e.symm).1; omega))
            obtain ⟨A8, n8, c8, rfl⟩ : ∃ A n c, v8 = .slice A n c := by obtain ⟨A, c, e⟩ := o8.form; exact ⟨A, _, c, e⟩
            refine hK.out _ _ (KF.out _ bx12 q12) (fun hTill => ?_)
            clear hK K
            (try simp only [Act.put, List.getElem_toArray, List.getElem_cons_zero, List.getElem_cons_succ, List.setIfInBounds_toArray, List.set_cons_zero, List.set_cons_succ])
            have z2 := bx12.cell 2
            have zf := bx12.frozen 2
            simp only [List.getElem?_toArray, List.getElem?_cons_zero, List.getElem?_cons_succ] at z2
            refine till_take (i := 9) (o := _) (v := ?_) rfl (by kernel_rfl) (by kernel_rfl) (by kernel_rfl) (by kernel_rfl) (by rfl) (fun _ _ _ h => h) (Or.inl ⟨by rfl, ?_⟩) (by assumption) ?_
            rotate_left
            · (intro wx hSw; skip; go_simp; (try with_reducible rfl))
            (try simp only [Act.put, List.getElem_toArray, List.getElem_cons_zero, List.getElem_cons_succ, List.setIfInBounds_toArray, List.set_cons_zero, List.set_cons_succ])
            refine till_last (i := 10) (o := _) (by kernel_rfl) rfl (by rfl) (fun K hK => ?_)
            go_simp
            refine hK.out _ _ ?_
            clear hK K
            (try simp only [Act.put, List.getElem_toArray, List.getElem_cons_zero, List.getElem_cons_succ, List.setIfInBounds_toArray, List.set_cons_zero, List.set_cons_succ])
            refine till_done (by kernel_rfl) ?_ _
            have bxE := bx12.set 2 (.slice A8 n8 c8)
            have oE : OwnP (w3.heap.size + 1) _ _ _ := ownsRow_set (b := w3.heap.size) (i := 2) (u := .slice A8 n8 c8) o8 (by omega)
            have qE := Q.set q12 (Nat.le_refl _) (k := 2) (.slice A8 n8 c8)
            generalize w8.setCell ⟨w3.heap.size, 2, none⟩ (.slice A8 n8 c8) = wE at bxE oE qE ⊢
            clear KF bx9 own9 q9 bx11 own11 q11 o8 g8 q12 bx12 z2 zf
            go_wp2_with fail
            go_roundw
            case rel => exact ⟨i + 1, _, _, _, _, by omega, by go_num, by simp; omega, bxE, oE, qE, HW⟩
            case measure => simp [intOf]; omega
          · have HW := HNO hxy
            clear HYES HNO
            go_wp2_with fail
            refine wp_region_held_drew (S := (fun w' => w'.cell? ⟨w.heap.size, 0, none⟩ = some (.int .i64 x) ∧ w'.cell? ⟨w1.heap.size, 2, none⟩ = some (.slice (some a2) n c2) ∧ w'.cell? (a2.add (i * 2)) = some (.int .i64 y) ∧ Q w3 w')) (by kernel_rfl) (KS.out _ q.drew) (fun hHeld => ?_)
            refine wpAnyH_take (i := 0) (oi := _) (v := ?_) rfl (by kernel_rfl) (by kernel_rfl) (by kernel_rfl) (fun _ _ _ h => h) (Or.inl ⟨by rfl, ?_⟩) (by assumption) ?_
            rotate_left
            · (intro wx hSw; (try dsimp only at hSw); go_simp; (try with_reducible rfl))
            (try simp only [Act.put, List.getElem_toArray, List.getElem_cons_zero, List.getElem_cons_succ, List.setIfInBounds_toArray, List.set_cons_zero, List.set_cons_succ])
            refine wpAnyH_take (i := 1) (oi := _) (v := ?_) rfl (by kernel_rfl) (by kernel_rfl) (by kernel_rfl) (fun _ _ _ h => h) (Or.inl ⟨by rfl, ?_⟩) (by assumption) ?_
            rotate_left
            · (intro wx hSw; (try dsimp only at hSw); go_simp; (try with_reducible rfl))
            (try simp only [Act.put, List.getElem_toArray, List.getElem_cons_zero, List.getElem_cons_succ, List.setIfInBounds_toArray, List.set_cons_zero, List.set_cons_succ])
            refine wpAnyH_take (i := 2) (oi := _) (v := ?_) rfl (by kernel_rfl) (by kernel_rfl) (by kernel_rfl) (fun _ _ _ h => h) (Or.inl ⟨by rfl, ?_⟩) (by assumption) ?_
            rotate_left
            · (intro wx hSw; (try dsimp only at hSw); go_simp; (try with_reducible rfl))
            (try simp only [Act.put, List.getElem_toArray, List.getElem_cons_zero, List.getElem_cons_succ, List.setIfInBounds_toArray, List.set_cons_zero, List.set_cons_succ])
            refine wpAnyH_take (i := 3) (oi := _) (v := ?_) rfl (by kernel_rfl) (by kernel_rfl) (by kernel_rfl) (fun _ _ _ h => h) (Or.inl ⟨by rfl, ?_⟩) (by assumption) ?_
            rotate_left
            · (intro wx hSw; (try dsimp only at hSw); go_simp; (try with_reducible rfl))
            (try simp only [Act.put, List.getElem_toArray, List.getElem_cons_zero, List.getElem_cons_succ, List.setIfInBounds_toArray, List.set_cons_zero, List.set_cons_succ])
            refine wpAnyH_take (i := 4) (oi := _) (v := ?_) rfl (by kernel_rfl) (by kernel_rfl) (by kernel_rfl) (fun _ _ _ h => h) (Or.inl ⟨by rfl, ?_⟩) (by assumption) ?_
            rotate_left
            · (intro wx hSw; (try dsimp only at hSw); go_simp; (try with_reducible rfl))
            (try simp only [Act.put, List.getElem_toArray, List.getElem_cons_zero, List.getElem_cons_succ, List.setIfInBounds_toArray, List.set_cons_zero, List.set_cons_succ])
            refine wpAnyH_take (i := 5) (oi := _) (v := ?_) rfl (by kernel_rfl) (by kernel_rfl) (by kernel_rfl) (fun _ _ _ h => h) (Or.inl ⟨by rfl, ?_⟩) (by assumption) ?_
            rotate_left
            · (intro wx hSw; (try dsimp only at hSw); go_simp; (try with_reducible rfl))
            (try simp only [Act.put, List.getElem_toArray, List.getElem_cons_zero, List.getElem_cons_succ, List.setIfInBounds_toArray, List.set_cons_zero, List.set_cons_succ])
            refine wpAnyH_take (i := 6) (oi := _) (v := ?_) rfl (by kernel_rfl) (by kernel_rfl) (by kernel_rfl) (fun _ _ _ h => h) (Or.inl ⟨by rfl, ?_⟩) (by assumption) ?_
            rotate_left
            · (intro wx hSw; (try dsimp only at hSw); go_simp; (try with_reducible rfl))
            (try simp only [Act.put, List.getElem_toArray, List.getElem_cons_zero, List.getElem_cons_succ, List.setIfInBounds_toArray, List.set_cons_zero, List.set_cons_succ])
            refine wpAnyH_take (i := 7) (oi := _) (v := ?_) rfl (by kernel_rfl) (by kernel_rfl) (by kernel_rfl) (fun _ _ _ h => h) (Or.inl ⟨by rfl, ?_⟩) (by assumption) ?_
            rotate_left
            · (intro wx hSw; (try dsimp only at hSw); go_simp; (try with_reducible rfl))
            (try simp only [Act.put, List.getElem_toArray, List.getElem_cons_zero, List.getElem_cons_succ, List.setIfInBounds_toArray, List.set_cons_zero, List.set_cons_succ])
            refine wpAnyH_take (i := 8) (oi := _) (v := .bool false) rfl (by kernel_rfl) (by kernel_rfl) (by kernel_rfl) (fun _ _ _ h => h) (Or.inl ⟨by rfl, ?_⟩) (by assumption) ?_
            · (intro wx hSw; (try dsimp only at hSw); go_simp; (try omega); (try simp [*]); (try omega))
            (try simp only [Act.put, List.getElem_toArray, List.getElem_cons_zero, List.getElem_cons_succ, List.setIfInBounds_toArray, List.set_cons_zero, List.set_cons_succ])
            refine wpAnyH_done (by kernel_rfl) ?_ _
            have q9 := (show (fun w' => w'.cell? ⟨w.heap.size, 0, none⟩ = some (.int .i64 x) ∧ w'.cell? ⟨w1.heap.size, 2, none⟩ = some (.slice (some a2) n c2) ∧ w'.cell? (a2.add (i * 2)) = some (.int .i64 y) ∧ Q w3 w') _ by assumption).2.2.2
            clear hHeld KS
            have bx9 := bx.on ((Q.refl wo).drew)
            have own9 := own.on ((Q.refl wo).drew)
            go_wp2_with fail
            go_roundw
            case rel => exact ⟨i + 1, _, _, _, _, by omega, by go_num, by omega, bx9, own9, q9, HW⟩
            case measure => simp [intOf]; omega
        · have hilt : ¬ (i : Int) < (n : Int) := by omega
          have HYF : Hid (Y = withP L ⟨x, d⟩) := Lib.hid (by rw [HY.out, HZE.out, List.take_of_length_le (by have := HN.out; omega)]; rfl)
          have hYn : Y.length ≤ 2001 := by omega
          obtain ⟨x0, x1, x2⟩ : wo.cell? ⟨w3.heap.size, 0, none⟩ = some (.int .u64 (xi : Nat)) ∧ wo.cell? ⟨w3.heap.size, 1, none⟩ = some (.string key) ∧ wo.cell? ⟨w3.heap.size, 2, none⟩ = some (.slice A5 n5 c5) := ⟨bx.cell 0, bx.cell 1, bx.cell 2⟩
          have hn5 : n5 = Y.length := by obtain ⟨A, c, e⟩ := own.form; injection e
          clear HY hil hlt
          by_cases h30 : 30 < Y.length
          · have HV := Lib.hid (HK1.out (by rw [HYF.out] at h30; exact h30))
            have h30' : (30 : Int) < (n5 : Int) := by omega
            clear h30 hn5
            go_wp2
            refine bodyPost_ret (v := .tuple #[.slice none 0 0, .int .u32 0, .int .i64 6]) (by simp [results, Try.results13, go_sem]) rfl ⟨_, (by obtain ⟨h1, h2, h3⟩ := HV.out; rw [h2, h3]; rfl), (by rw [HV.out.1]; exact Upls.nil _ _), QW.out.trans q⟩
          · have HV := Lib.hid (HK0.out (by rw [HYF.out] at h30; exact h30))
            have h30' : ¬ (30 : Int) < (n5 : Int) := by omega
            have hY30 : Y.length ≤ 30 := by omega
            have X9 : Hid (∀ b, Q wo b → OwnU1 wo.heap.size b ((⟨xi, key, Y⟩ : Upl), .slice A5 n5 c5)) := Lib.hid fun b qb => ⟨⟨hoX.1, hoX.2.1, by unfold maxLen; show Y.length ≤ _; omega⟩, (by rw [HYF.out]; exact withP_ok HOKL.out hp), by unfold maxLen; show Y.length ≤ _; omega, .inl ((own.read (by rw [HYF.out]; exact withP_ok HOKL.out hp)).below qb)⟩
            obtain ⟨N, hNl⟩ : ∃ N, l.length = N := ⟨_, rfl⟩
            have HNl := Lib.hid hNl
            have HT3 : Hid (Upls wo wo.heap.size (.slice Av l.length cv) l) := Lib.hid (HT.out.on (QW.out.trans q))
            rw [hNl] at HT3 hl ⊢
            have qb := Lib.hid (QW.out.trans q)
            have HY9 : Hid (⟨xi, key, Y⟩ = (⟨xi, key, withP L ⟨x, d⟩⟩ : Upl)) := Lib.hid (by rw [HYF.out])
            have HBX : Hid (∀ b, Q wo b → b.cell? ⟨w3.heap.size, 0, none⟩ = some (.int .u64 (xi : Nat)) ∧ b.cell? ⟨w3.heap.size, 1, none⟩ = some (.string key) ∧ b.cell? ⟨w3.heap.size, 2, none⟩ = some (.slice A5 n5 c5)) := Lib.hid fun b q => ⟨(bx.on q).cell 0, (bx.on q).cell 1, (bx.on q).cell 2⟩
            have HB3 : Hid (∀ b, Q wo b → b.cell? ⟨w.heap.size, 1, none⟩ = some (.string d)) := Lib.hid fun b qb' => (HB0.out _ (q.trans qb')).2
            clear h30 hn5 own bx q hNl hYn hYl
            go_wp2_with fail
            go_loopw [14, 15] (fun O I wr => ∃ i : Nat, i ≤ N ∧ I = .int .i64 i ∧ OwnU wo.heap.size wr O ((l.take i).map (fun y => if y.id = xi then ⟨xi, key, Y⟩ else y)) ∧ Q wo wr) (fun _ I _ => N - (intOf I).toNat)
            case atStart => exact ⟨0, Nat.zero_le _, rfl, OwnU.nil _ _, Q.refl _⟩
            case round =>
              obtain ⟨i, hil, rfl, hown, q⟩ := hrel
              by_cases hlt : i < N
              · have hltl : i < l.length := by have := HNl.out; omega
                obtain ⟨a, c', hv, ha, A7, c7, hps, hat⟩ := HT3.out.pick i hltl
                injection hv with f1 f2 f3
                subst f1 f3
                have qww := q
                obtain ⟨d0, d1, d2⟩ := hat _ qww
                have hilt : (i : Int) < (N : Int) := by omega
                have hlen : ((l.take i).map (fun y => if y.id = xi then (⟨xi, key, Y⟩ : Upl) else y)).length ≤ 1000 := by rw [List.length_map, List.length_take]; omega
                have hs := qww.size
                have MY : l[i].id = xi → Hid ((l.take i).map (fun y => if y.id = xi then (⟨xi, key, Y⟩ : Upl) else y) ++ [⟨xi, key, Y⟩] = (l.take (i + 1)).map (fun y => if y.id = xi then (⟨xi, key, Y⟩ : Upl) else y)) := fun h => Lib.hid (by rw [List.take_succ_eq_append_getElem hltl, List.map_append, List.map_singleton, if_pos h])
                have MN : l[i].id ≠ xi → Hid ((l.take i).map (fun y => if y.id = xi then (⟨xi, key, Y⟩ : Upl) else y) ++ [l[i]] = (l.take (i + 1)).map (fun y => if y.id = xi then (⟨xi, key, Y⟩ : Upl) else y)) := fun h => Lib.hid (by rw [List.take_succ_eq_append_getElem hltl, List.map_append, List.map_singleton, if_neg h])
                have ONEI := fun b (qq : Q wo b) => HT3.out.one qq i hltl hps
                obtain ⟨T, hT⟩ : ∃ T, T = (l.take i).map (fun y => if y.id = xi then (⟨xi, key, Y⟩ : Upl) else y) := ⟨_, rfl⟩
                rw [← hT] at hown hlen MY MN
                obtain ⟨y, hy⟩ : ∃ y, y = l[i] := ⟨_, rfl⟩
                rw [← hy] at d0 d1 d2 MY MN ONEI
                clear hat hy hT f2 hps
                by_cases hyi : y.id = xi
                · have hyi' : (y.id : Int) = (xi : Int) := by omega
                  have HW := MY hyi
                  obtain ⟨x0, x1, x2⟩ := HBX.out _ q
                  have q3 := (Q.refl wr).alloc (.cells #[.int .u64 (xi : Nat), .string key, .slice A5 n5 c5] 40)
                  have h0 := hown.on q3 hs
                  have o1 := Lib.hid (X9.out _ (q.trans q3))
                  clear MY MN ONEI
                  go_wp2_with (at_builtin; refine wpList_snoc_upl _ rfl _ _ 22 Try.underlying22 rfl wo.heap.size wr.heap.size _ _ ((⟨xi, key, Y⟩ : Upl), .slice A5 n5 c5) rfl rfl (cells_oneupl wr ((⟨xi, key, Y⟩ : Upl), .slice A5 n5 c5) 40) h0 o1.out ?hb ?hl ?_; (case hb => simp; omega); (case hl => omega); intro v5 w5 o5 g5)
                  have q5 : Q wo w5 := Below.trans (Q.trans qww q3) g5
                  go_roundw
                  case rel => exact ⟨i + 1, by omega, by go_num, by rw [← HW.out]; exact o5, q5⟩
                  case measure => simp [intOf]; omega
                · have hyi' : ¬ (y.id : Int) = (xi : Int) := by omega
                  have HW := MN hyi
                  have q3 := (Q.refl wr).alloc (.cells #[.int .u64 (y.id : Nat), .string y.key, .slice A7 y.L.length c7] 40)
                  have h0 := hown.on q3 hs
                  have o1 := Lib.hid (ONEI _ (qww.trans q3))
                  clear MY MN ONEI
                  go_wp2_with (at_builtin; refine wpList_snoc_upl _ rfl _ _ 22 Try.underlying22 rfl wo.heap.size wr.heap.size _ _ (y, .slice A7 y.L.length c7) rfl rfl (cells_oneupl wr (y, .slice A7 y.L.length c7) 40) h0 o1.out ?hb ?hl ?_; (case hb => simp; omega); (case hl => omega); intro v5 w5 o5 g5)
                  have q5 : Q wo w5 := Below.trans (Q.trans qww q3) g5
                  go_roundw
                  case rel => exact ⟨i + 1, by omega, by go_num, by rw [← HW.out]; exact o5, q5⟩
                  case measure => simp [intOf]; omega
              · have hilt : ¬ (i : Int) < (N : Int) := by omega
                have p1 := HB3.out _ q
                have HE : Hid ((l.take i).map (fun y => if y.id = xi then (⟨xi, key, Y⟩ : Upl) else y) = r) := Lib.hid (by rw [HV.out.1, List.take_of_length_le (by have := HNl.out; omega), HYF.out])
                rw [HE.out] at hown
                obtain ⟨A9, c9, rfl⟩ := hown.form
                obtain ⟨n9, hn9⟩ : ∃ n, r.length = n := ⟨_, rfl⟩
                rw [hn9] at hown ⊢
                go_wp2_with fail
                refine (O.out _).mono ?_
                rintro e w9 ⟨rfl, rfl⟩
                go_wp2
                refine bodyPost_ret (v := .tuple #[.slice A9 n9 c9, .int .u32 (crc (bl d) : Nat), .int .i64 0]) (by simp [results, Try.results13, go_sem]) rfl ⟨_, (by obtain ⟨h1, h2, h3⟩ := HV.out; rw [h2, h3]; rfl), hown.read q.size, qb.out.trans q⟩
end Go.Proofs.Ytlahccmlnbdekaa
