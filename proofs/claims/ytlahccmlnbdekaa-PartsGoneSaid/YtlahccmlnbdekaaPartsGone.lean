/-
  Proved: whatever uploads, number and key PartsGone is called with, it returns true and leaves what it was given as it was. No condition.
-/
import Derived.Deep.DeepCutAuto
import Derived.Deep.RegionHeld3
import Derived.Test.YtlahccmlnbdekaaUFewL
import Derived.Test.YtlahccmlnbdekaaUAwk
import Derived.Test.YtlahccmlnbdekaaURSame
namespace Go.Proofs.Ytlahccmlnbdekaa.partsGone
open Go.ChangeShapes Go.WideShapes Go.ChangeAt Go.RowKit
open Go.ChangeMaps (open_string shut_string)
set_option linter.unusedVariables false
set_option linter.unusedSimpArgs false

theorem addr0 (a : Addr) : a.add 0 = a := by cases a; simp [Addr.add]
/-- Parts lie elsewhere than in an upload's box, and stay where it is written. -/
theorem Prts.boxedU {w w' : World} {B : Nat} {v : Value} {l : List Prt} {A : Option Addr} {n c : Nat} {s : ByteArray} {i : Int} {t : TypeId} (h : Prts w w.heap.size v l)
    (hb : Bx w B t #[.int .u64 i, .string s, .slice A n c]) (hk : ∀ j, j ≠ B → w'.heap[j]? = w.heap[j]?) (hs : w.heap.size ≤ w'.heap.size) : Prts w' w'.heap.size v l := by
  obtain ⟨A', c', e, e0, ez, eo, f⟩ := h
  refine ⟨A', c', e, e0, ez, eo, fun k hk' => ?_⟩
  obtain ⟨a, e1, e2, e3⟩ := f k hk'
  refine ⟨a, e1, by omega, ?_⟩
  have hne : (a.add (k * 2)).block ≠ B := by
    obtain ⟨c0, c1⟩ := e3
    generalize a.add (k * 2) = p at c0 c1
    intro hp
    obtain ⟨b, o, x⟩ := p
    simp only at hp c1
    subst hp
    rw [hb.cell] at c1
    match o with
    | 0 =>
      cases x with
      | none => rw [hb.cell] at c0; simp at c0
      | some x => simp [World.cell?, show w.heap[b]? = _ from hb] at c0
    | 1 => simp at c1
    | o + 2 => simp at c1
  exact ⟨(World.cell?_of_block (hk _ hne)).trans e3.1, (World.cell?_of_block (a := ⟨(a.add (k * 2)).block, (a.add (k * 2)).off + 1, none⟩) (hk _ hne)).trans e3.2⟩
/-- An upload in a box of its own, as a slice. -/
theorem upls_box (w : World) (u : Upl) (v : Value) (h : okU u) (t : Prts w w.heap.size v u.L) : Upls (w.alloc (.cells #[.int .u64 (u.id : Nat), .string u.key, v] 40)) (w.alloc (.cells #[.int .u64 (u.id : Nat), .string u.key, v] 40)).heap.size (.slice (some ⟨w.heap.size, 0, none⟩) 1 1) [u] := by
  refine ⟨_, _, rfl, Nat.le_refl _, (by simp), fun x hx => ?_, fun k hk => ?_⟩
  · obtain rfl : x = u := by simpa using hx
    exact h
  · have k0 : k = 0 := by simpa using hk
    subst k0
    refine ⟨_, rfl, by simp, ?_, ?_, v, ?_, ?_⟩
    · simp [Addr.add]
    · simp [Addr.add]
    · simp [Addr.add]
    · exact t.on ((Q.refl w).alloc _)

theorem SZD (w : World) : w.drew.heap.size = w.heap.size := rfl
theorem rmU_in {l : List Upl} {id : Nat} {x : Upl} : x ∈ rmU l id ↔ x ∈ l ∧ x.id ≠ id := by
  rw [rmU, List.mem_filter]; simp
theorem gone_none {l : List Upl} {id : Nat} (h : okUps l) : FindC (rmU l id) id noU 4 := .none (rmU_ok h) fun j hl => (rmU_in.1 (List.getElem_mem hl)).2
theorem gone_find {l : List Upl} {i id : Nat} (h : okUps l) (hi : i < l.length) (hn : l[i].id ≠ id) : FindC (rmU l id) l[i].id l[i] 0 := by
  obtain ⟨j, hj, e⟩ := List.getElem_of_mem (rmU_in.2 ⟨List.getElem_mem hi, hn⟩)
  have := FindC.yes (id := l[i].id) j hj (rmU_ok h) (by rw [e]) (fun k hk hl => by
    have := okUps_lt (rmU_ok (id := id) h) k j hk hj
    rw [e] at this; omega)
  rw [e] at this; exact this
theorem gone_len {l : List Upl} {id : Nat} {r : List Upl} (h : AbortC l id r 0) : okUps l ∧ r = rmU l id ∧ r.length + 1 = l.length := by
  cases h with
  | yes i hi h1 h2 h3 =>
    refine ⟨h1, rfl, ?_⟩
    rw [← rmU_at h1 hi h2, List.length_append, List.length_take, List.length_drop]; omega
theorem last_le {l : List Upl} {i x : Nat} (h : okUps l) (hi : i < l.length) (hx : lastI l i x) : x ≤ l[i].id := by
  rcases hx with ⟨-, e⟩ | ⟨j, hj, hji, e⟩
  · omega
  · have := okUps_lt h j i (by omega) hi; omega
theorem last_top2 {l : List Upl} {x : Nat} (h : okUps l) (hx : lastI l l.length x) : x ≤ 281474976710655 ∧ ∀ y ∈ l, y.id ≤ x := by
  rcases hx with ⟨h0, e⟩ | ⟨j, hj, hji, e⟩
  · subst e
    have : l = [] := List.length_eq_zero_iff.1 h0
    subst this
    exact ⟨by omega, by simp⟩
  · refine ⟨by have := (okUp_id (h.2 j hj).1).2; omega, fun y hy => ?_⟩
    obtain ⟨k, hk, rfl⟩ := List.getElem_of_mem hy
    rcases Nat.lt_or_ge k j with g | g
    · have := okUps_lt h k j g hj; omega
    · have : k = j := by omega
      subst this; omega
/-- Begun anew, by a number that is greater than all: it goes, and is found with no parts, or the number or the key may not be. -/
theorem gone_again {l : List Upl} {id x : Nat} {r : List Upl} {key : ByteArray} (h : AbortC l id r 0) (hx : lastI l l.length x) :
    (BeginC r (x + 1) key [] 1) ∨ (BeginC r (x + 1) key (r ++ [⟨x + 1, key, []⟩]) 0 ∧ FindC (r ++ [⟨x + 1, key, []⟩]) (x + 1) ⟨x + 1, key, []⟩ 0) := by
  obtain ⟨hok, hr, hl⟩ := gone_len h
  obtain ⟨-, top⟩ := last_top2 hok hx
  have hokr : okUps r := by rw [hr]; exact rmU_ok hok
  have hlt : ∀ y ∈ r, y.id < x + 1 := fun y hy => by
    rw [hr] at hy
    have := top y (rmU_in.1 hy).1; omega
  by_cases hm : mayB (x + 1) key = true
  · have h10 := hok.1
    have B : BeginC r (x + 1) key (r ++ [⟨x + 1, key, []⟩]) 0 := .yes hokr hm hlt (by omega)
    refine .inr ⟨B, ?_⟩
    have := FindC.yes (l := r ++ [⟨x + 1, key, []⟩]) (id := x + 1) r.length (by simp) (beginC_ok B) (by simp) (fun j hj hl2 => by
      rw [List.getElem_append_left hj]
      have := hlt _ (List.getElem_mem hj); omega)
    simpa using this
  · exact .inl (.arg fun k => hm k.2)
set_option maxHeartbeats 8000000 in
set_option maxRecDepth 100000 in
theorem walk (l : List Upl) (v : Value) (idv : Int) (qk : ByteArray) (w : World) (t0 : Upls w w.heap.size v l) (z0 : l.length ≤ maxLen) (w1 : (Lit.int .u64 idv).wf = true) (wk : qk.size ≤ maxLen) :
    Calls Try.prog 7 #[v, .int .u64 idv, .string qk] w fun e w' => e = .returned (.bool true) ∧ Q w w' := by
  obtain ⟨id, rfl, hid⟩ : ∃ n : Nat, idv = n ∧ n < 18446744073709551616 := by
    have h2 : 0 ≤ idv ∧ idv ≤ 18446744073709551615 := by simpa [Lit.wf, IntKind.min, IntKind.max, IntKind.signed, IntKind.bits] using w1
    exact ⟨idv.toNat, by omega, by omega⟩
  have FW : Hid (∀ d, Q w d → Calls Try.prog 10 #[v] d fun e w' => ∃ v', e = .returned v' ∧ Upls w' w'.heap.size v' (fewL l) ∧ Q d w') := Lib.hid fun d q => fewUp_any l v d z0 (t0.on q)
  have sl := fewL_sm l
  obtain ⟨L, hL⟩ : ∃ L, L = fewL l := ⟨_, rfl⟩
  rw [← hL] at FW sl
  have FK := Lib.hid fun d => fewS_any qk d wk
  have hk := fewS_size qk
  obtain ⟨k, hk'⟩ : ∃ k, k = fewS qk := ⟨_, rfl⟩
  rw [← hk'] at FK hk
  obtain ⟨A, c, rfl⟩ := t0.form
  obtain ⟨N0, hN0⟩ : ∃ N, l.length = N := ⟨_, rfl⟩
  rw [hN0] at FW ⊢
  have AW := Lib.hid fun d => awakeU_any d
  obtain ⟨r, n, hA⟩ := abortC_ex L id
  have AB : Hid (∀ d u, Upls d d.heap.size u L → Calls Try.prog 14 #[u, .int .u64 (id : Nat)] d fun x w' => ∃ u, x = .returned (.tuple #[u, .int .i64 (n : Nat)]) ∧ Upls w' w'.heap.size u r ∧ Q d w') := Lib.hid fun d u h => abortU_any L u id d r n hA sl h
  have HA := Lib.hid hA
  clear t0 z0 w1 wk hL hN0 hk' hA
  go_enter Try.func7, Try.ntmps7
  go_wp2_with fail
  refine (FW.out _ (Q.refl _)).mono ?_
  rintro e wa ⟨u1, rfl, h1, q1⟩
  obtain ⟨A1, c1, rfl⟩ := h1.form
  go_wp2_with fail
  refine (FK.out _).mono ?_
  rintro e wb ⟨rfl, rfl⟩
  go_wp2_with fail
  refine (AB.out _ _ h1).mono ?_
  rintro e w2 ⟨u2, rfl, h2, q2⟩
  obtain ⟨A2, c2, rfl⟩ := h2.form
  clear FW FK AB
  by_cases hn : n = 0
  · subst hn
    obtain ⟨okl, hr, hlen⟩ := gone_len HA.out
    have sr : smL r := by rw [hr]; exact okUps_sm (rmU_ok okl)
    have F4 : Hid (∀ d u, Upls d d.heap.size u r → Calls Try.prog 16 #[u, .int .u64 (id : Nat)] d fun x w' => ∃ u, x = .returned (.tuple #[upl noU u, .int .i64 4]) ∧ OwnP d.heap.size w' u noU.L ∧ Q d w') := Lib.hid fun d u h => findU_any r u id d noU 4 (by rw [hr]; exact gone_none okl) sr h
    have FI : Hid (∀ i (hi : i < L.length), L[i].id ≠ id → ∀ d u, Upls d d.heap.size u r → Calls Try.prog 16 #[u, .int .u64 (L[i].id : Nat)] d fun x w' => ∃ u, x = .returned (.tuple #[upl L[i] u, .int .i64 0]) ∧ OwnP d.heap.size w' u L[i].L ∧ Q d w') := Lib.hid fun i hi hne d u h => findU_any r u _ d L[i] 0 (by rw [hr]; exact gone_find okl hi hne) sr h
    have SM : Hid (∀ x : Upl, smU x → ∀ d u u2, Upls d d.heap.size u [x] → Upls d d.heap.size u2 [x] → Calls Try.prog 18 #[u, u2] d fun z w' => z = .returned (.bool true) ∧ Q d w') := Lib.hid fun x hx d u u2 g g2 => (rsameU_any [x] [x] u u2 d true (.inl ⟨rfl, rfl⟩) ⟨by simp, by simpa using hx⟩ ⟨by simp, by simpa using hx⟩ g g2).mono fun _ _ ⟨a, b⟩ => ⟨a, b.q⟩
    have BG : Hid (∀ x : Nat, lastI L L.length x → x ≤ 281474976710655 ∧ ((∀ d u, Upls d d.heap.size u r → Calls Try.prog 23 #[u, .int .u64 ((x : Int) + 1), .string k] d fun z w' => ∃ u, z = .returned (.tuple #[u, .int .i64 1]) ∧ Upls w' w'.heap.size u [] ∧ Q d w') ∨
        ((∀ d u, Upls d d.heap.size u r → Calls Try.prog 23 #[u, .int .u64 ((x : Int) + 1), .string k] d fun z w' => ∃ u, z = .returned (.tuple #[u, .int .i64 0]) ∧ Upls w' w'.heap.size u (r ++ [⟨x + 1, k, []⟩]) ∧ Q d w') ∧
         ∀ d u, Upls d d.heap.size u (r ++ [⟨x + 1, k, []⟩]) → Calls Try.prog 16 #[u, .int .u64 ((x : Int) + 1)] d fun z w' => ∃ u, z = .returned (.tuple #[upl ⟨x + 1, k, []⟩ u, .int .i64 0]) ∧ OwnP d.heap.size w' u [] ∧ Q d w'))) := Lib.hid fun x hx => by
      have hc : ((x : Int) + 1) = ((x + 1 : Nat) : Int) := by omega
      refine ⟨(last_top2 okl hx).1, ?_⟩
      rw [hc]
      rcases gone_again (key := k) HA.out hx with hb | ⟨hb, hf⟩
      · exact .inl fun d u h => beginU_any r u (x + 1) k d [] 1 hb sr (by omega) h
      · exact .inr ⟨fun d u h => beginU_any r u (x + 1) k d _ 0 hb sr (by omega) h, fun d u h => findU_any _ u (x + 1) d _ 0 hf (okUps_sm (beginC_ok hb)) h⟩
    have HSM := Lib.hid sl
    have HOK := Lib.hid okl
    obtain ⟨N, hN⟩ : ∃ N, L.length = N := ⟨_, rfl⟩
    obtain ⟨M, hM⟩ : ∃ M, r.length = M := ⟨_, rfl⟩
    have hN10 : N ≤ 10 := by have := okl.1; omega
    rw [hN] at h1 hlen
    rw [hM] at h2 hlen
    rw [hN, hM]
    have HN := Lib.hid hN
    have HT1 := Lib.hid (h1.on q2)
    have HT2 := Lib.hid h2
    have hMN : (N : Int) - 1 = (M : Int) := by omega
    have qa := q1.trans q2
    clear HA hr sr sl okl hM hN h1 h2 q1 q2
    go_wp2_with fail
    refine (F4.out _ _ HT2.out).mono ?_
    rintro e w3 ⟨u3, rfl, o3, q3⟩
    obtain ⟨A3, n3, c3, rfl⟩ := o3.nm
    have q4 := q3.alloc (.cells #[.int .u64 0, .string ⟨#[]⟩, .slice A3 n3 c3] 40)
    clear o3 F4
    simp only [upl, noU, Int.ofNat_zero] at FI BG ⊢
    have HT3 := Lib.hid (HT2.out.on q4)
    have HT4 := Lib.hid (HT1.out.on q4)
    have qb := qa.trans q4
    clear HT1 HT2 qa q3
    go_upto_region 6 with fail
    generalize w3.alloc (.cells #[.int .u64 0, .string ⟨#[]⟩, .slice A3 n3 c3] 40) = w4 at q4 HT3 HT4 qb ⊢
    clear q4
    go_wp2_with fail
    go_loopw [11, 12, 13, 14] (fun LV I _ _ wr => ∃ i x : Nat, i ≤ N ∧ I = .int .i64 i ∧ LV = .int .u64 (x : Nat) ∧ x ≤ 281474976710655 ∧ Q w4 wr ∧ Hid (lastI L i x)) (fun _ I _ _ _ => N - (intOf I).toNat)
    case atStart => exact ⟨0, 0, Nat.zero_le _, rfl, rfl, by omega, Q.refl _, Lib.hid (.inl ⟨rfl, rfl⟩)⟩
    case round =>
      obtain ⟨i, x, hil, rfl, rfl, hx, q, HX⟩ := hrel
      by_cases hlt : i < N
      · have hiN : (i : Int) < (N : Int) := by omega
        have hltL : i < L.length := by have := HN.out; omega
        obtain ⟨a, c', hv, ha, A5, c5, hps, hat⟩ := HT4.out.pick i hltL
        injection hv with e1 e2 e3
        subst e1 e3
        have hle := last_le HOK.out hltL HX.out
        have hid2 := (okUp_id (HOK.out.2 i hltL).1).2
        have HX2 : Hid (lastI L (i + 1) L[i].id) := Lib.hid (lastI_next hltL)
        have smx := HSM.out.2 _ (List.getElem_mem hltL)
        have FIi := fun hne => FI.out i hltL hne
        have hokx := HT4.out.okAll _ (List.getElem_mem hltL)
        obtain ⟨y, hy⟩ : ∃ y, y = L[i] := ⟨_, rfl⟩
        rw [← hy] at hps hat hle hid2 HX2 smx FIi hokx
        clear hy e2
        have SMi := SM.out y smx
        obtain ⟨yi, yk, yL⟩ := y
        simp only at hps hat hle hid2 HX2 FIi hokx
        obtain ⟨g0, g1, g2⟩ := hat _ q
        by_cases hyi : yi = id
        · have hyi' : (yi : Int) = (id : Int) := by omega
          clear FIi SMi hps hat
          go_wp2_with fail
          go_roundw
          case rel => exact ⟨i + 1, yi, by omega, by go_num, (by congr 1; split <;> omega), hid2, q, HX2⟩
          case measure => simp [intOf]; omega
        · have hyi' : ¬ (yi : Int) = (id : Int) := by omega
          have F5 := Lib.hid (FIi hyi)
          have S5 := Lib.hid SMi
          have HOKY := Lib.hid hokx
          have HPS := Lib.hid hps
          have HAT : Hid (∀ d, Q w4 d → d.cell? (a.add (i * 3)) = some (.int .u64 (yi : Nat)) ∧ d.cell? ⟨(a.add (i * 3)).block, (a.add (i * 3)).off + 1, none⟩ = some (.string yk) ∧ d.cell? ⟨(a.add (i * 3)).block, (a.add (i * 3)).off + 2, none⟩ = some (.slice A5 yL.length c5)) := Lib.hid hat
          clear FIi SMi hps hat hokx smx
          rcases Nat.lt_or_ge x yi with hxy | hxy
          · have hxy' : (x : Int) < (yi : Int) := by omega
            go_wp2_with fail
            refine (F5.out _ _ (HT3.out.on q)).mono ?_
            rintro e w5 ⟨u5, rfl, o5, q5⟩
            obtain ⟨A6, n6, c6, rfl⟩ := o5.nm
            have hokL : ∀ p ∈ yL, okP p := HPS.out.okAll
            have p5 := o5.read hokL
            have q6 := q5.alloc (.cells #[.int .u64 (yi : Nat), .string yk, .slice A6 n6 c6] 40)
            have qr := q.trans q6
            have P6 := p5.on ((Q.refl w5).alloc (.cells #[.int .u64 (yi : Nat), .string yk, .slice A6 n6 c6] 40))
            have HB : Hid (∀ b, Q (w5.alloc (.cells #[.int .u64 (yi : Nat), .string yk, .slice A6 n6 c6] 40)) b → b.cell? ⟨w5.heap.size, 0, none⟩ = some (.int .u64 (yi : Nat)) ∧ b.cell? ⟨w5.heap.size, 1, none⟩ = some (.string yk) ∧ b.cell? ⟨w5.heap.size, 2, none⟩ = some (.slice A6 n6 c6)) := Lib.hid fun b qb => boxU_of qb
            clear o5 p5 q5 hokL
            go_upto_region 15 with fail
            generalize w5.alloc (.cells #[.int .u64 (yi : Nat), .string yk, .slice A6 n6 c6] 40) = w6 at q6 qr P6 HB ⊢
            have KF : Hid (∀ b, Q w6 b → (fun W => W.cell? ⟨w5.heap.size, 0, none⟩ = some (.int .u64 (yi : Nat)) ∧ W.cell? ⟨w5.heap.size, 1, none⟩ = some (.string yk) ∧ W.cell? ⟨w5.heap.size, 2, none⟩ = some (.slice A6 n6 c6) ∧ W.cell? (a.add (i * 3)) = some (.int .u64 (yi : Nat)) ∧ W.cell? ⟨(a.add (i * 3)).block, (a.add (i * 3)).off + 1, none⟩ = some (.string yk) ∧ W.cell? ⟨(a.add (i * 3)).block, (a.add (i * 3)).off + 2, none⟩ = some (.slice A5 yL.length c5) ∧ Q w6 W) b) := Lib.hid fun b qb => ⟨(HB.out b qb).1, (HB.out b qb).2.1, (HB.out b qb).2.2, (HAT.out b (qr.trans qb)).1, (HAT.out b (qr.trans qb)).2.1, (HAT.out b (qr.trans qb)).2.2, qb⟩
            have P7 := HPS.out.on qr
            refine wp_region_held_drew (S := (fun W => W.cell? ⟨w5.heap.size, 0, none⟩ = some (.int .u64 (yi : Nat)) ∧ W.cell? ⟨w5.heap.size, 1, none⟩ = some (.string yk) ∧ W.cell? ⟨w5.heap.size, 2, none⟩ = some (.slice A6 n6 c6) ∧ W.cell? (a.add (i * 3)) = some (.int .u64 (yi : Nat)) ∧ W.cell? ⟨(a.add (i * 3)).block, (a.add (i * 3)).off + 1, none⟩ = some (.string yk) ∧ W.cell? ⟨(a.add (i * 3)).block, (a.add (i * 3)).off + 2, none⟩ = some (.slice A5 yL.length c5) ∧ Q w6 W)) (by kernel_rfl) (KF.out _ (Q.refl w6).drew) (fun hHeld => ?_)
            refine wpAnyH_take (i := 0) (oi := _) (v := ?_) rfl (by kernel_rfl) (by kernel_rfl) (by kernel_rfl) (fun _ _ _ h => h) (Or.inl ⟨by rfl, ?_⟩) (by assumption) ?_
            rotate_left
            · (intro wx hSw; (try dsimp only at hSw); go_simp; (try with_reducible rfl))
            (try simp only [Act.put, List.getElem_toArray, List.getElem_cons_zero, List.getElem_cons_succ, List.setIfInBounds_toArray, List.set_cons_zero, List.set_cons_succ])
            refine wpAnyH_take (i := 1) (oi := _) (v := .bool false) rfl (by kernel_rfl) (by kernel_rfl) (by kernel_rfl) (fun _ _ _ h => h) (Or.inl ⟨by rfl, ?_⟩) (by assumption) ?_
            · (intro wx hSw; (try dsimp only at hSw); go_simp; (try omega); (try simp [*]); (try omega))
            (try simp only [Act.put, List.getElem_toArray, List.getElem_cons_zero, List.getElem_cons_succ, List.setIfInBounds_toArray, List.set_cons_zero, List.set_cons_succ])
            refine wpAnyH_take (i := 2) (oi := _) (v := .bool false) rfl (by kernel_rfl) (by kernel_rfl) (by kernel_rfl) (fun _ _ _ h => h) (Or.inl ⟨by rfl, ?_⟩) (by assumption) ?_
            · (intro wx hSw; (try dsimp only at hSw); go_simp; (try omega); (try simp [*]); (try omega))
            (try simp only [Act.put, List.getElem_toArray, List.getElem_cons_zero, List.getElem_cons_succ, List.setIfInBounds_toArray, List.set_cons_zero, List.set_cons_succ])
            refine wpAnyH_take (i := 3) (oi := _) (v := ?_) rfl (by kernel_rfl) (by kernel_rfl) (by kernel_rfl) (fun _ _ _ h => h) (Or.inl ⟨by rfl, ?_⟩) (by assumption) ?_
            rotate_left
            · (intro wx hSw; (try dsimp only at hSw); go_simp; (try with_reducible rfl))
            (try simp only [Act.put, List.getElem_toArray, List.getElem_cons_zero, List.getElem_cons_succ, List.setIfInBounds_toArray, List.set_cons_zero, List.set_cons_succ])
            refine wpAnyH_take (i := 5) (oi := _) (v := ?_) rfl (by kernel_rfl) (by kernel_rfl) (by kernel_rfl) (fun _ _ _ h => h) (Or.inl ⟨by rfl, ?_⟩) (by assumption) ?_
            rotate_left
            · (intro wx hSw; (try dsimp only at hSw); go_simp; (try with_reducible rfl))
            (try simp only [Act.put, List.getElem_toArray, List.getElem_cons_zero, List.getElem_cons_succ, List.setIfInBounds_toArray, List.set_cons_zero, List.set_cons_succ])
            refine wpAnyH_take (i := 6) (oi := _) (v := ?_) rfl (by kernel_rfl) (by kernel_rfl) (by kernel_rfl) (fun _ _ _ h => h) (Or.inl ⟨by rfl, ?_⟩) (by assumption) ?_
            rotate_left
            · (intro wx hSw; (try dsimp only at hSw); go_simp; (try with_reducible rfl))
            (try simp only [Act.put, List.getElem_toArray, List.getElem_cons_zero, List.getElem_cons_succ, List.setIfInBounds_toArray, List.set_cons_zero, List.set_cons_succ])
            refine wpAnyH_take (i := 7) (oi := _) (v := ?_) rfl (by kernel_rfl) (by kernel_rfl) (by kernel_rfl) (fun _ _ _ h => h) (Or.inl ⟨by rfl, ?_⟩) (by assumption) ?_
            rotate_left
            · (intro wx hSw; (try dsimp only at hSw); go_simp; (try with_reducible rfl))
            (try simp only [Act.put, List.getElem_toArray, List.getElem_cons_zero, List.getElem_cons_succ, List.setIfInBounds_toArray, List.set_cons_zero, List.set_cons_succ])
            refine wpAnyH_take (i := 8) (oi := _) (v := ?_) rfl (by kernel_rfl) (by kernel_rfl) (by kernel_rfl) (fun _ _ _ h => h) (Or.inl ⟨by rfl, ?_⟩) (by assumption) ?_
            rotate_left
            · (intro wx hSw; (try dsimp only at hSw); go_simp; (try with_reducible rfl))
            (try simp only [Act.put, List.getElem_toArray, List.getElem_cons_zero, List.getElem_cons_succ, List.setIfInBounds_toArray, List.set_cons_zero, List.set_cons_succ])
            refine wpAnyH_ready (rs := [4, 9]) (by kernel_rfl) (by simp) ?_
            refine AllReadyH.cons (o := _) rfl (fun K hK => ?_) (AllReadyH.cons (o := _) rfl (fun K hK => ?_) AllReadyH.nil)
            · go_simp
              refine hK.out _ _ (KF.out _ ((Q.refl w6).alloc _).drew) (fun hHeld => ?_)
              clear hK K
              (try simp only [Act.put, List.getElem_toArray, List.getElem_cons_zero, List.getElem_cons_succ, List.setIfInBounds_toArray, List.set_cons_zero, List.set_cons_succ])
              refine wpAnyH_ready (rs := [9]) (by kernel_rfl) (by simp) ?_
              refine AllReadyH.cons (o := _) rfl (fun K hK => ?_) AllReadyH.nil
              go_simp
              refine hK.out _ _ (KF.out _ (((Q.refl w6).alloc _).alloc _).drew) (fun hHeld => ?_)
              clear hK K
              (try simp only [Act.put, List.getElem_toArray, List.getElem_cons_zero, List.getElem_cons_succ, List.setIfInBounds_toArray, List.set_cons_zero, List.set_cons_succ])
              have U1 : Upls ((w6.drew.alloc (.cells #[.int .u64 (yi : Nat), .string yk, .slice A6 n6 c6] 40)).alloc (.cells #[.int .u64 (yi : Nat), .string yk, .slice A5 yL.length c5] 40)) ((w6.drew.alloc (.cells #[.int .u64 (yi : Nat), .string yk, .slice A6 n6 c6] 40)).alloc (.cells #[.int .u64 (yi : Nat), .string yk, .slice A5 yL.length c5] 40)).heap.size (.slice (some ⟨w6.heap.size, 0, none⟩) 1 1) [⟨yi, yk, yL⟩] := by
                have := (upls_box w6.drew ⟨yi, yk, yL⟩ (.slice A6 n6 c6) HOKY.out (P6.on (Q.refl w6).drew)).on ((Q.refl _).alloc (.cells #[.int .u64 (yi : Nat), .string yk, .slice A5 yL.length c5] 40))
                simp only [World.size_alloc, SZD] at this ⊢
                exact this
              have U2 : Upls ((w6.drew.alloc (.cells #[.int .u64 (yi : Nat), .string yk, .slice A6 n6 c6] 40)).alloc (.cells #[.int .u64 (yi : Nat), .string yk, .slice A5 yL.length c5] 40)) ((w6.drew.alloc (.cells #[.int .u64 (yi : Nat), .string yk, .slice A6 n6 c6] 40)).alloc (.cells #[.int .u64 (yi : Nat), .string yk, .slice A5 yL.length c5] 40)).heap.size (.slice (some ⟨w6.heap.size + 1, 0, none⟩) 1 1) [⟨yi, yk, yL⟩] := by
                have := upls_box (w6.drew.alloc (.cells #[.int .u64 (yi : Nat), .string yk, .slice A6 n6 c6] 40)) ⟨yi, yk, yL⟩ (.slice A5 yL.length c5) HOKY.out (P7.on ((Q.refl w6).drew.alloc (.cells #[.int .u64 (yi : Nat), .string yk, .slice A6 n6 c6] 40)))
                simp only [World.size_alloc, SZD] at this ⊢
                exact this
              refine wpAnyH_ready (rs := [10]) (by kernel_rfl) (by simp) ?_
              refine AllReadyH.cons (o := _) rfl (fun K hK => ?_) AllReadyH.nil
              go_simp
              go_at_call 18
              refine (S5.out _ _ _ U1 U2).mono ?_
              rintro e w7 ⟨rfl, q7⟩
              refine hK.out _ _ (KF.out _ ((((Q.refl w6).alloc _).alloc _).drew.trans q7)) (fun hHeld => ?_)
              clear hK K
              (try simp only [Act.put, List.getElem_toArray, List.getElem_cons_zero, List.getElem_cons_succ, List.setIfInBounds_toArray, List.set_cons_zero, List.set_cons_succ])
              refine wpAnyH_take (i := 11) (oi := _) (v := ?_) rfl (by kernel_rfl) (by kernel_rfl) (by kernel_rfl) (fun _ _ _ h => h) (Or.inl ⟨by rfl, ?_⟩) (by assumption) ?_
              rotate_left
              · (intro wx hSw; (try dsimp only at hSw); go_simp; (try with_reducible rfl))
              (try simp only [Act.put, List.getElem_toArray, List.getElem_cons_zero, List.getElem_cons_succ, List.setIfInBounds_toArray, List.set_cons_zero, List.set_cons_succ])
              refine wpAnyH_take (i := 12) (oi := _) (v := ?_) rfl (by kernel_rfl) (by kernel_rfl) (by kernel_rfl) (fun _ _ _ h => h) (Or.inl ⟨by rfl, ?_⟩) (by assumption) ?_
              rotate_left
              · (intro wx hSw; (try dsimp only at hSw); go_simp; (try with_reducible rfl))
              (try simp only [Act.put, List.getElem_toArray, List.getElem_cons_zero, List.getElem_cons_succ, List.setIfInBounds_toArray, List.set_cons_zero, List.set_cons_succ])
              refine wpAnyH_done (by kernel_rfl) ?_ _
              have q9 := (show (fun W => W.cell? ⟨w5.heap.size, 0, none⟩ = some (.int .u64 (yi : Nat)) ∧ W.cell? ⟨w5.heap.size, 1, none⟩ = some (.string yk) ∧ W.cell? ⟨w5.heap.size, 2, none⟩ = some (.slice A6 n6 c6) ∧ W.cell? (a.add (i * 3)) = some (.int .u64 (yi : Nat)) ∧ W.cell? ⟨(a.add (i * 3)).block, (a.add (i * 3)).off + 1, none⟩ = some (.string yk) ∧ W.cell? ⟨(a.add (i * 3)).block, (a.add (i * 3)).off + 2, none⟩ = some (.slice A5 yL.length c5) ∧ Q w6 W) _ by assumption).2.2.2.2.2.2
              clear KF U1 U2 P6 P7
              go_wp2_with fail
              go_roundw
              case rel => exact ⟨i + 1, yi, by omega, by go_num, rfl, hid2, qr.trans q9, HX2⟩
              case measure => simp [intOf]; omega
            · go_simp
              refine hK.out _ _ (KF.out _ ((Q.refl w6).alloc _).drew) (fun hHeld => ?_)
              clear hK K
              (try simp only [Act.put, List.getElem_toArray, List.getElem_cons_zero, List.getElem_cons_succ, List.setIfInBounds_toArray, List.set_cons_zero, List.set_cons_succ])
              refine wpAnyH_ready (rs := [4]) (by kernel_rfl) (by simp) ?_
              refine AllReadyH.cons (o := _) rfl (fun K hK => ?_) AllReadyH.nil
              go_simp
              refine hK.out _ _ (KF.out _ (((Q.refl w6).alloc _).alloc _).drew) (fun hHeld => ?_)
              clear hK K
              (try simp only [Act.put, List.getElem_toArray, List.getElem_cons_zero, List.getElem_cons_succ, List.setIfInBounds_toArray, List.set_cons_zero, List.set_cons_succ])
              have U1 : Upls ((w6.drew.alloc (.cells #[.int .u64 (yi : Nat), .string yk, .slice A5 yL.length c5] 40)).alloc (.cells #[.int .u64 (yi : Nat), .string yk, .slice A6 n6 c6] 40)) ((w6.drew.alloc (.cells #[.int .u64 (yi : Nat), .string yk, .slice A5 yL.length c5] 40)).alloc (.cells #[.int .u64 (yi : Nat), .string yk, .slice A6 n6 c6] 40)).heap.size (.slice (some ⟨w6.heap.size, 0, none⟩) 1 1) [⟨yi, yk, yL⟩] := by
                have := (upls_box w6.drew ⟨yi, yk, yL⟩ (.slice A5 yL.length c5) HOKY.out (P7.on (Q.refl w6).drew)).on ((Q.refl _).alloc (.cells #[.int .u64 (yi : Nat), .string yk, .slice A6 n6 c6] 40))
                simp only [World.size_alloc, SZD] at this ⊢
                exact this
              have U2 : Upls ((w6.drew.alloc (.cells #[.int .u64 (yi : Nat), .string yk, .slice A5 yL.length c5] 40)).alloc (.cells #[.int .u64 (yi : Nat), .string yk, .slice A6 n6 c6] 40)) ((w6.drew.alloc (.cells #[.int .u64 (yi : Nat), .string yk, .slice A5 yL.length c5] 40)).alloc (.cells #[.int .u64 (yi : Nat), .string yk, .slice A6 n6 c6] 40)).heap.size (.slice (some ⟨w6.heap.size + 1, 0, none⟩) 1 1) [⟨yi, yk, yL⟩] := by
                have := upls_box (w6.drew.alloc (.cells #[.int .u64 (yi : Nat), .string yk, .slice A5 yL.length c5] 40)) ⟨yi, yk, yL⟩ (.slice A6 n6 c6) HOKY.out (P6.on ((Q.refl w6).drew.alloc (.cells #[.int .u64 (yi : Nat), .string yk, .slice A5 yL.length c5] 40)))
                simp only [World.size_alloc, SZD] at this ⊢
                exact this
              refine wpAnyH_ready (rs := [10]) (by kernel_rfl) (by simp) ?_
              refine AllReadyH.cons (o := _) rfl (fun K hK => ?_) AllReadyH.nil
              go_simp
              go_at_call 18
              refine (S5.out _ _ _ U2 U1).mono ?_
              rintro e w7 ⟨rfl, q7⟩
              refine hK.out _ _ (KF.out _ ((((Q.refl w6).alloc _).alloc _).drew.trans q7)) (fun hHeld => ?_)
              clear hK K
              (try simp only [Act.put, List.getElem_toArray, List.getElem_cons_zero, List.getElem_cons_succ, List.setIfInBounds_toArray, List.set_cons_zero, List.set_cons_succ])
              refine wpAnyH_take (i := 11) (oi := _) (v := ?_) rfl (by kernel_rfl) (by kernel_rfl) (by kernel_rfl) (fun _ _ _ h => h) (Or.inl ⟨by rfl, ?_⟩) (by assumption) ?_
              rotate_left
              · (intro wx hSw; (try dsimp only at hSw); go_simp; (try with_reducible rfl))
              (try simp only [Act.put, List.getElem_toArray, List.getElem_cons_zero, List.getElem_cons_succ, List.setIfInBounds_toArray, List.set_cons_zero, List.set_cons_succ])
              refine wpAnyH_take (i := 12) (oi := _) (v := ?_) rfl (by kernel_rfl) (by kernel_rfl) (by kernel_rfl) (fun _ _ _ h => h) (Or.inl ⟨by rfl, ?_⟩) (by assumption) ?_
              rotate_left
              · (intro wx hSw; (try dsimp only at hSw); go_simp; (try with_reducible rfl))
              (try simp only [Act.put, List.getElem_toArray, List.getElem_cons_zero, List.getElem_cons_succ, List.setIfInBounds_toArray, List.set_cons_zero, List.set_cons_succ])
              refine wpAnyH_done (by kernel_rfl) ?_ _
              have q9 := (show (fun W => W.cell? ⟨w5.heap.size, 0, none⟩ = some (.int .u64 (yi : Nat)) ∧ W.cell? ⟨w5.heap.size, 1, none⟩ = some (.string yk) ∧ W.cell? ⟨w5.heap.size, 2, none⟩ = some (.slice A6 n6 c6) ∧ W.cell? (a.add (i * 3)) = some (.int .u64 (yi : Nat)) ∧ W.cell? ⟨(a.add (i * 3)).block, (a.add (i * 3)).off + 1, none⟩ = some (.string yk) ∧ W.cell? ⟨(a.add (i * 3)).block, (a.add (i * 3)).off + 2, none⟩ = some (.slice A5 yL.length c5) ∧ Q w6 W) _ by assumption).2.2.2.2.2.2
              clear KF U1 U2 P6 P7
              go_wp2_with fail
              go_roundw
              case rel => exact ⟨i + 1, yi, by omega, by go_num, rfl, hid2, qr.trans q9, HX2⟩
              case measure => simp [intOf]; omega
          · have hxe : yi = x := by omega
            subst hxe
            have hxy' : ¬ (yi : Int) < (yi : Int) := by omega
            go_wp2_with fail
            refine (F5.out _ _ (HT3.out.on q)).mono ?_
            rintro e w5 ⟨u5, rfl, o5, q5⟩
            obtain ⟨A6, n6, c6, rfl⟩ := o5.nm
            have hokL : ∀ p ∈ yL, okP p := HPS.out.okAll
            have p5 := o5.read hokL
            have q6 := q5.alloc (.cells #[.int .u64 (yi : Nat), .string yk, .slice A6 n6 c6] 40)
            have qr := q.trans q6
            have P6 := p5.on ((Q.refl w5).alloc (.cells #[.int .u64 (yi : Nat), .string yk, .slice A6 n6 c6] 40))
            have HB : Hid (∀ b, Q (w5.alloc (.cells #[.int .u64 (yi : Nat), .string yk, .slice A6 n6 c6] 40)) b → b.cell? ⟨w5.heap.size, 0, none⟩ = some (.int .u64 (yi : Nat)) ∧ b.cell? ⟨w5.heap.size, 1, none⟩ = some (.string yk) ∧ b.cell? ⟨w5.heap.size, 2, none⟩ = some (.slice A6 n6 c6)) := Lib.hid fun b qb => boxU_of qb
            clear o5 p5 q5 hokL
            go_upto_region 15 with fail
            generalize w5.alloc (.cells #[.int .u64 (yi : Nat), .string yk, .slice A6 n6 c6] 40) = w6 at q6 qr P6 HB ⊢
            have KF : Hid (∀ b, Q w6 b → (fun W => W.cell? ⟨w5.heap.size, 0, none⟩ = some (.int .u64 (yi : Nat)) ∧ W.cell? ⟨w5.heap.size, 1, none⟩ = some (.string yk) ∧ W.cell? ⟨w5.heap.size, 2, none⟩ = some (.slice A6 n6 c6) ∧ W.cell? (a.add (i * 3)) = some (.int .u64 (yi : Nat)) ∧ W.cell? ⟨(a.add (i * 3)).block, (a.add (i * 3)).off + 1, none⟩ = some (.string yk) ∧ W.cell? ⟨(a.add (i * 3)).block, (a.add (i * 3)).off + 2, none⟩ = some (.slice A5 yL.length c5) ∧ Q w6 W) b) := Lib.hid fun b qb => ⟨(HB.out b qb).1, (HB.out b qb).2.1, (HB.out b qb).2.2, (HAT.out b (qr.trans qb)).1, (HAT.out b (qr.trans qb)).2.1, (HAT.out b (qr.trans qb)).2.2, qb⟩
            have P7 := HPS.out.on qr
            refine wp_region_held_drew (S := (fun W => W.cell? ⟨w5.heap.size, 0, none⟩ = some (.int .u64 (yi : Nat)) ∧ W.cell? ⟨w5.heap.size, 1, none⟩ = some (.string yk) ∧ W.cell? ⟨w5.heap.size, 2, none⟩ = some (.slice A6 n6 c6) ∧ W.cell? (a.add (i * 3)) = some (.int .u64 (yi : Nat)) ∧ W.cell? ⟨(a.add (i * 3)).block, (a.add (i * 3)).off + 1, none⟩ = some (.string yk) ∧ W.cell? ⟨(a.add (i * 3)).block, (a.add (i * 3)).off + 2, none⟩ = some (.slice A5 yL.length c5) ∧ Q w6 W)) (by kernel_rfl) (KF.out _ (Q.refl w6).drew) (fun hHeld => ?_)
            refine wpAnyH_take (i := 0) (oi := _) (v := ?_) rfl (by kernel_rfl) (by kernel_rfl) (by kernel_rfl) (fun _ _ _ h => h) (Or.inl ⟨by rfl, ?_⟩) (by assumption) ?_
            rotate_left
            · (intro wx hSw; (try dsimp only at hSw); go_simp; (try with_reducible rfl))
            (try simp only [Act.put, List.getElem_toArray, List.getElem_cons_zero, List.getElem_cons_succ, List.setIfInBounds_toArray, List.set_cons_zero, List.set_cons_succ])
            refine wpAnyH_take (i := 1) (oi := _) (v := .bool false) rfl (by kernel_rfl) (by kernel_rfl) (by kernel_rfl) (fun _ _ _ h => h) (Or.inl ⟨by rfl, ?_⟩) (by assumption) ?_
            · (intro wx hSw; (try dsimp only at hSw); go_simp; (try omega); (try simp [*]); (try omega))
            (try simp only [Act.put, List.getElem_toArray, List.getElem_cons_zero, List.getElem_cons_succ, List.setIfInBounds_toArray, List.set_cons_zero, List.set_cons_succ])
            refine wpAnyH_take (i := 2) (oi := _) (v := .bool false) rfl (by kernel_rfl) (by kernel_rfl) (by kernel_rfl) (fun _ _ _ h => h) (Or.inl ⟨by rfl, ?_⟩) (by assumption) ?_
            · (intro wx hSw; (try dsimp only at hSw); go_simp; (try omega); (try simp [*]); (try omega))
            (try simp only [Act.put, List.getElem_toArray, List.getElem_cons_zero, List.getElem_cons_succ, List.setIfInBounds_toArray, List.set_cons_zero, List.set_cons_succ])
            refine wpAnyH_take (i := 3) (oi := _) (v := ?_) rfl (by kernel_rfl) (by kernel_rfl) (by kernel_rfl) (fun _ _ _ h => h) (Or.inl ⟨by rfl, ?_⟩) (by assumption) ?_
            rotate_left
            · (intro wx hSw; (try dsimp only at hSw); go_simp; (try with_reducible rfl))
            (try simp only [Act.put, List.getElem_toArray, List.getElem_cons_zero, List.getElem_cons_succ, List.setIfInBounds_toArray, List.set_cons_zero, List.set_cons_succ])
            refine wpAnyH_take (i := 5) (oi := _) (v := ?_) rfl (by kernel_rfl) (by kernel_rfl) (by kernel_rfl) (fun _ _ _ h => h) (Or.inl ⟨by rfl, ?_⟩) (by assumption) ?_
            rotate_left
            · (intro wx hSw; (try dsimp only at hSw); go_simp; (try with_reducible rfl))
            (try simp only [Act.put, List.getElem_toArray, List.getElem_cons_zero, List.getElem_cons_succ, List.setIfInBounds_toArray, List.set_cons_zero, List.set_cons_succ])
            refine wpAnyH_take (i := 6) (oi := _) (v := ?_) rfl (by kernel_rfl) (by kernel_rfl) (by kernel_rfl) (fun _ _ _ h => h) (Or.inl ⟨by rfl, ?_⟩) (by assumption) ?_
            rotate_left
            · (intro wx hSw; (try dsimp only at hSw); go_simp; (try with_reducible rfl))
            (try simp only [Act.put, List.getElem_toArray, List.getElem_cons_zero, List.getElem_cons_succ, List.setIfInBounds_toArray, List.set_cons_zero, List.set_cons_succ])
            refine wpAnyH_take (i := 7) (oi := _) (v := ?_) rfl (by kernel_rfl) (by kernel_rfl) (by kernel_rfl) (fun _ _ _ h => h) (Or.inl ⟨by rfl, ?_⟩) (by assumption) ?_
            rotate_left
            · (intro wx hSw; (try dsimp only at hSw); go_simp; (try with_reducible rfl))
            (try simp only [Act.put, List.getElem_toArray, List.getElem_cons_zero, List.getElem_cons_succ, List.setIfInBounds_toArray, List.set_cons_zero, List.set_cons_succ])
            refine wpAnyH_take (i := 8) (oi := _) (v := ?_) rfl (by kernel_rfl) (by kernel_rfl) (by kernel_rfl) (fun _ _ _ h => h) (Or.inl ⟨by rfl, ?_⟩) (by assumption) ?_
            rotate_left
            · (intro wx hSw; (try dsimp only at hSw); go_simp; (try with_reducible rfl))
            (try simp only [Act.put, List.getElem_toArray, List.getElem_cons_zero, List.getElem_cons_succ, List.setIfInBounds_toArray, List.set_cons_zero, List.set_cons_succ])
            refine wpAnyH_ready (rs := [4, 9]) (by kernel_rfl) (by simp) ?_
            refine AllReadyH.cons (o := _) rfl (fun K hK => ?_) (AllReadyH.cons (o := _) rfl (fun K hK => ?_) AllReadyH.nil)
            · go_simp
              refine hK.out _ _ (KF.out _ ((Q.refl w6).alloc _).drew) (fun hHeld => ?_)
              clear hK K
              (try simp only [Act.put, List.getElem_toArray, List.getElem_cons_zero, List.getElem_cons_succ, List.setIfInBounds_toArray, List.set_cons_zero, List.set_cons_succ])
              refine wpAnyH_ready (rs := [9]) (by kernel_rfl) (by simp) ?_
              refine AllReadyH.cons (o := _) rfl (fun K hK => ?_) AllReadyH.nil
              go_simp
              refine hK.out _ _ (KF.out _ (((Q.refl w6).alloc _).alloc _).drew) (fun hHeld => ?_)
              clear hK K
              (try simp only [Act.put, List.getElem_toArray, List.getElem_cons_zero, List.getElem_cons_succ, List.setIfInBounds_toArray, List.set_cons_zero, List.set_cons_succ])
              have U1 : Upls ((w6.drew.alloc (.cells #[.int .u64 (yi : Nat), .string yk, .slice A6 n6 c6] 40)).alloc (.cells #[.int .u64 (yi : Nat), .string yk, .slice A5 yL.length c5] 40)) ((w6.drew.alloc (.cells #[.int .u64 (yi : Nat), .string yk, .slice A6 n6 c6] 40)).alloc (.cells #[.int .u64 (yi : Nat), .string yk, .slice A5 yL.length c5] 40)).heap.size (.slice (some ⟨w6.heap.size, 0, none⟩) 1 1) [⟨yi, yk, yL⟩] := by
                have := (upls_box w6.drew ⟨yi, yk, yL⟩ (.slice A6 n6 c6) HOKY.out (P6.on (Q.refl w6).drew)).on ((Q.refl _).alloc (.cells #[.int .u64 (yi : Nat), .string yk, .slice A5 yL.length c5] 40))
                simp only [World.size_alloc, SZD] at this ⊢
                exact this
              have U2 : Upls ((w6.drew.alloc (.cells #[.int .u64 (yi : Nat), .string yk, .slice A6 n6 c6] 40)).alloc (.cells #[.int .u64 (yi : Nat), .string yk, .slice A5 yL.length c5] 40)) ((w6.drew.alloc (.cells #[.int .u64 (yi : Nat), .string yk, .slice A6 n6 c6] 40)).alloc (.cells #[.int .u64 (yi : Nat), .string yk, .slice A5 yL.length c5] 40)).heap.size (.slice (some ⟨w6.heap.size + 1, 0, none⟩) 1 1) [⟨yi, yk, yL⟩] := by
                have := upls_box (w6.drew.alloc (.cells #[.int .u64 (yi : Nat), .string yk, .slice A6 n6 c6] 40)) ⟨yi, yk, yL⟩ (.slice A5 yL.length c5) HOKY.out (P7.on ((Q.refl w6).drew.alloc (.cells #[.int .u64 (yi : Nat), .string yk, .slice A6 n6 c6] 40)))
                simp only [World.size_alloc, SZD] at this ⊢
                exact this
              refine wpAnyH_ready (rs := [10]) (by kernel_rfl) (by simp) ?_
              refine AllReadyH.cons (o := _) rfl (fun K hK => ?_) AllReadyH.nil
              go_simp
              go_at_call 18
              refine (S5.out _ _ _ U1 U2).mono ?_
              rintro e w7 ⟨rfl, q7⟩
              refine hK.out _ _ (KF.out _ ((((Q.refl w6).alloc _).alloc _).drew.trans q7)) (fun hHeld => ?_)
              clear hK K
              (try simp only [Act.put, List.getElem_toArray, List.getElem_cons_zero, List.getElem_cons_succ, List.setIfInBounds_toArray, List.set_cons_zero, List.set_cons_succ])
              refine wpAnyH_take (i := 11) (oi := _) (v := ?_) rfl (by kernel_rfl) (by kernel_rfl) (by kernel_rfl) (fun _ _ _ h => h) (Or.inl ⟨by rfl, ?_⟩) (by assumption) ?_
              rotate_left
              · (intro wx hSw; (try dsimp only at hSw); go_simp; (try with_reducible rfl))
              (try simp only [Act.put, List.getElem_toArray, List.getElem_cons_zero, List.getElem_cons_succ, List.setIfInBounds_toArray, List.set_cons_zero, List.set_cons_succ])
              refine wpAnyH_take (i := 12) (oi := _) (v := ?_) rfl (by kernel_rfl) (by kernel_rfl) (by kernel_rfl) (fun _ _ _ h => h) (Or.inl ⟨by rfl, ?_⟩) (by assumption) ?_
              rotate_left
              · (intro wx hSw; (try dsimp only at hSw); go_simp; (try with_reducible rfl))
              (try simp only [Act.put, List.getElem_toArray, List.getElem_cons_zero, List.getElem_cons_succ, List.setIfInBounds_toArray, List.set_cons_zero, List.set_cons_succ])
              refine wpAnyH_done (by kernel_rfl) ?_ _
              have q9 := (show (fun W => W.cell? ⟨w5.heap.size, 0, none⟩ = some (.int .u64 (yi : Nat)) ∧ W.cell? ⟨w5.heap.size, 1, none⟩ = some (.string yk) ∧ W.cell? ⟨w5.heap.size, 2, none⟩ = some (.slice A6 n6 c6) ∧ W.cell? (a.add (i * 3)) = some (.int .u64 (yi : Nat)) ∧ W.cell? ⟨(a.add (i * 3)).block, (a.add (i * 3)).off + 1, none⟩ = some (.string yk) ∧ W.cell? ⟨(a.add (i * 3)).block, (a.add (i * 3)).off + 2, none⟩ = some (.slice A5 yL.length c5) ∧ Q w6 W) _ by assumption).2.2.2.2.2.2
              clear KF U1 U2 P6 P7
              go_wp2_with fail
              go_roundw
              case rel => exact ⟨i + 1, yi, by omega, by go_num, rfl, hid2, qr.trans q9, HX2⟩
              case measure => simp [intOf]; omega
            · go_simp
              refine hK.out _ _ (KF.out _ ((Q.refl w6).alloc _).drew) (fun hHeld => ?_)
              clear hK K
              (try simp only [Act.put, List.getElem_toArray, List.getElem_cons_zero, List.getElem_cons_succ, List.setIfInBounds_toArray, List.set_cons_zero, List.set_cons_succ])
              refine wpAnyH_ready (rs := [4]) (by kernel_rfl) (by simp) ?_
              refine AllReadyH.cons (o := _) rfl (fun K hK => ?_) AllReadyH.nil
              go_simp
              refine hK.out _ _ (KF.out _ (((Q.refl w6).alloc _).alloc _).drew) (fun hHeld => ?_)
              clear hK K
              (try simp only [Act.put, List.getElem_toArray, List.getElem_cons_zero, List.getElem_cons_succ, List.setIfInBounds_toArray, List.set_cons_zero, List.set_cons_succ])
              have U1 : Upls ((w6.drew.alloc (.cells #[.int .u64 (yi : Nat), .string yk, .slice A5 yL.length c5] 40)).alloc (.cells #[.int .u64 (yi : Nat), .string yk, .slice A6 n6 c6] 40)) ((w6.drew.alloc (.cells #[.int .u64 (yi : Nat), .string yk, .slice A5 yL.length c5] 40)).alloc (.cells #[.int .u64 (yi : Nat), .string yk, .slice A6 n6 c6] 40)).heap.size (.slice (some ⟨w6.heap.size, 0, none⟩) 1 1) [⟨yi, yk, yL⟩] := by
                have := (upls_box w6.drew ⟨yi, yk, yL⟩ (.slice A5 yL.length c5) HOKY.out (P7.on (Q.refl w6).drew)).on ((Q.refl _).alloc (.cells #[.int .u64 (yi : Nat), .string yk, .slice A6 n6 c6] 40))
                simp only [World.size_alloc, SZD] at this ⊢
                exact this
              have U2 : Upls ((w6.drew.alloc (.cells #[.int .u64 (yi : Nat), .string yk, .slice A5 yL.length c5] 40)).alloc (.cells #[.int .u64 (yi : Nat), .string yk, .slice A6 n6 c6] 40)) ((w6.drew.alloc (.cells #[.int .u64 (yi : Nat), .string yk, .slice A5 yL.length c5] 40)).alloc (.cells #[.int .u64 (yi : Nat), .string yk, .slice A6 n6 c6] 40)).heap.size (.slice (some ⟨w6.heap.size + 1, 0, none⟩) 1 1) [⟨yi, yk, yL⟩] := by
                have := upls_box (w6.drew.alloc (.cells #[.int .u64 (yi : Nat), .string yk, .slice A5 yL.length c5] 40)) ⟨yi, yk, yL⟩ (.slice A6 n6 c6) HOKY.out (P6.on ((Q.refl w6).drew.alloc (.cells #[.int .u64 (yi : Nat), .string yk, .slice A5 yL.length c5] 40)))
                simp only [World.size_alloc, SZD] at this ⊢
                exact this
              refine wpAnyH_ready (rs := [10]) (by kernel_rfl) (by simp) ?_
              refine AllReadyH.cons (o := _) rfl (fun K hK => ?_) AllReadyH.nil
              go_simp
              go_at_call 18
              refine (S5.out _ _ _ U2 U1).mono ?_
              rintro e w7 ⟨rfl, q7⟩
              refine hK.out _ _ (KF.out _ ((((Q.refl w6).alloc _).alloc _).drew.trans q7)) (fun hHeld => ?_)
              clear hK K
              (try simp only [Act.put, List.getElem_toArray, List.getElem_cons_zero, List.getElem_cons_succ, List.setIfInBounds_toArray, List.set_cons_zero, List.set_cons_succ])
              refine wpAnyH_take (i := 11) (oi := _) (v := ?_) rfl (by kernel_rfl) (by kernel_rfl) (by kernel_rfl) (fun _ _ _ h => h) (Or.inl ⟨by rfl, ?_⟩) (by assumption) ?_
              rotate_left
              · (intro wx hSw; (try dsimp only at hSw); go_simp; (try with_reducible rfl))
              (try simp only [Act.put, List.getElem_toArray, List.getElem_cons_zero, List.getElem_cons_succ, List.setIfInBounds_toArray, List.set_cons_zero, List.set_cons_succ])
              refine wpAnyH_take (i := 12) (oi := _) (v := ?_) rfl (by kernel_rfl) (by kernel_rfl) (by kernel_rfl) (fun _ _ _ h => h) (Or.inl ⟨by rfl, ?_⟩) (by assumption) ?_
              rotate_left
              · (intro wx hSw; (try dsimp only at hSw); go_simp; (try with_reducible rfl))
              (try simp only [Act.put, List.getElem_toArray, List.getElem_cons_zero, List.getElem_cons_succ, List.setIfInBounds_toArray, List.set_cons_zero, List.set_cons_succ])
              refine wpAnyH_done (by kernel_rfl) ?_ _
              have q9 := (show (fun W => W.cell? ⟨w5.heap.size, 0, none⟩ = some (.int .u64 (yi : Nat)) ∧ W.cell? ⟨w5.heap.size, 1, none⟩ = some (.string yk) ∧ W.cell? ⟨w5.heap.size, 2, none⟩ = some (.slice A6 n6 c6) ∧ W.cell? (a.add (i * 3)) = some (.int .u64 (yi : Nat)) ∧ W.cell? ⟨(a.add (i * 3)).block, (a.add (i * 3)).off + 1, none⟩ = some (.string yk) ∧ W.cell? ⟨(a.add (i * 3)).block, (a.add (i * 3)).off + 2, none⟩ = some (.slice A5 yL.length c5) ∧ Q w6 W) _ by assumption).2.2.2.2.2.2
              clear KF U1 U2 P6 P7
              go_wp2_with fail
              go_roundw
              case rel => exact ⟨i + 1, yi, by omega, by go_num, rfl, hid2, qr.trans q9, HX2⟩
              case measure => simp [intOf]; omega
      · have hiN : ¬ (i : Int) < (N : Int) := by omega
        have HXN : Hid (lastI L L.length x) := Lib.hid (by have := HX.out; rw [show i = L.length by have := HN.out; omega] at this; exact this)
        obtain ⟨-, hB⟩ := BG.out x HXN.out
        clear BG FI SM hil hlt
        rcases hB with hB | ⟨hB, hF⟩
        · have hB := Lib.hid hB
          go_wp2_with fail
          refine (hB.out _ _ (HT3.out.on q)).mono ?_
          rintro e w7 ⟨u7, rfl, o7, q7⟩
          obtain ⟨A7, c7, rfl⟩ := o7.form
          clear o7
          go_wp2_with fail
          refine (AW.out _).mono ?_
          rintro e w9 ⟨rfl, q9⟩
          go_wp2
          go_ret
          exact ⟨rfl, qb.trans (q.trans (q7.trans q9))⟩
        · have hB := Lib.hid hB
          have hF := Lib.hid hF
          go_wp2_with fail
          refine (hB.out _ _ (HT3.out.on q)).mono ?_
          rintro e w7 ⟨u7, rfl, o7, q7⟩
          have HO7 := Lib.hid o7
          obtain ⟨A7, c7, rfl⟩ := o7.form
          clear o7
          obtain ⟨n7, hn7⟩ : ∃ n, (r ++ [(⟨x + 1, k, []⟩ : Upl)]).length = n := ⟨_, rfl⟩
          rw [hn7] at HO7 ⊢
          clear hn7
          go_wp2_with fail
          refine (hF.out _ _ HO7.out).mono ?_
          rintro e w8 ⟨u8, rfl, o8, q8⟩
          obtain ⟨A8, c8, rfl⟩ := o8.form
          simp only [List.length_nil]
          have bu := Bx.new w8 40 #[.int .u64 ((x + 1 : Nat) : Int), .string k, .slice A8 0 c8]
          have f1 := bu.cell 1
          have f2 := bu.cell 2
          simp only [List.getElem?_toArray, List.getElem?_cons_zero, List.getElem?_cons_succ] at f1 f2
          have heq : (k.toList == k.toList) = true := by simp
          have q10 := qb.trans (q.trans (q7.trans (q8.alloc (.cells #[.int .u64 ((x + 1 : Nat) : Int), .string k, .slice A8 0 c8] 40))))
          clear o8 bu HO7
          go_wp2_with fail
          refine (AW.out _).mono ?_
          rintro e w9 ⟨rfl, q9⟩
          go_wp2
          go_ret
          exact ⟨rfl, q10.trans q9⟩
  · have hr0 := abort_nil HA.out hn
    have hni : ¬ (n : Int) = 0 := by omega
    subst hr0
    simp only [List.length_nil]
    clear HA hn h1 h2
    go_wp2_with fail
    refine (AW.out _).mono ?_
    rintro e w9 ⟨rfl, q9⟩
    go_wp2
    go_ret
    exact ⟨rfl, q1.trans (q2.trans q9)⟩

set_option maxRecDepth 100000 in
theorem lifted (os : Os) (started : os.Started) (H : Type) (enc : TypeId × Value → H) :
    ReturnsInHanded {} Try.checked os 7 .any (Rows.partsGoneSpec.pre6 enc Try.prog Try.f7 Rows.partsGoneRow.domain false) (Rows.partsGoneSpec.post enc Try.prog Try.f7 false true false false) := by
  refine returnsInHanded_of_change (C := Try.checked) own started (by kernel_rfl) Try.func7
    (ChangeSpec.witness6 (enc := enc) (C := Try.checked) false ⟨#[], #[.slice none 0 0, .int .u64 0, .string ByteArray.empty], []⟩ 8 (by kernel_rfl) (by kernel_rfl) (by kernel_rfl) (by kernel_rfl)) ?_
  intro W base args ds gs before hval0 hW hcnd _
  have hval : ∀ (j : Nat) t v, Try.f7.params[j]? = some t → args[j]? = some v → Value.okWide Try.prog W .any base t v := hval0
  have hW' := hW
  obtain ⟨p, q, hA0, hV, rfl, hfz, hnd⟩ := hW
  have hA : DataW.TrodAll enc Try.prog W 0 (fun _ => true) true Try.f7.params.toList args.toList ds p := hA0
  rw [Try.params7] at hA hval
  obtain ⟨v0, vs0, d0, ds0, p0, q0, hargs, rfl, rfl, h0, r0⟩ := trodAll_cons hA
  obtain ⟨v1, vs1, d1, ds1, p1, q1, rfl, rfl, rfl, h1, r1⟩ := trodAll_cons r0
  obtain ⟨v2, vs2, d2, ds2, p2, q2, rfl, rfl, rfl, h2, r2⟩ := trodAll_cons r1
  obtain ⟨rfl, rfl, rfl⟩ := trodAll_nil r2
  obtain rfl : args = #[v0, v1, v2] := by cases args; simp_all
  obtain ⟨rfl, rfl⟩ := trodVars_none hV
  clear hA0 hval0
  simp only [List.append_nil] at hW'
  have hlt : ∀ x ∈ p0 ++ p1 ++ p2, x.block < W.heap.size := fun x hx => by simpa using hW'.lt x (by simpa using hx)
  obtain ⟨l0, t0, z0⟩ := open_upls (hval 0 22 v0 rfl rfl) h0
  obtain ⟨a1, rfl, -, -, w1⟩ := open_int Try.underlying23 (hval 1 23 v1 rfl rfl) h1
  obtain ⟨a2, rfl, -, -, w2⟩ := open_string Try.underlying9 (hval 2 9 v2 rfl rfl) h2
  refine (walk l0 v0 a1 a2 W t0 z0 w1 w2).mono fun e W' ⟨he, bel⟩ => ?_
  subst he
  refine ⟨_, rfl, _, _, _, [], _, [], hW', trodAll_mk1 (shut_bool Try.underlying4 _), (trodAll_cons_mk (Below.trod laid (by kernel_rfl) (of_decide_eq_true (by kernel_rfl)) h0 bel (fun x hx => hlt x (by simp [hx]))) (trodAll_cons_mk (Below.trod laid (by kernel_rfl) (of_decide_eq_true (by kernel_rfl)) h1 bel (fun x hx => hlt x (by simp [hx]))) (trodAll_cons_mk (Below.trod laid (by kernel_rfl) (of_decide_eq_true (by kernel_rfl)) h2 bel (fun x hx => hlt x (by simp [hx]))) trodAll_mk0))), rfl, Below.frame bel _, fun h => by cases h⟩

theorem over : Rows.partsGoneRow.holds Try.pinned (OpenSpec.ofChange Rows.partsGoneSpec) :=
  OpenClaim.holds_of_wide 7 Try.f7 rfl rfl rfl rfl rfl rfl rfl ⟨rfl, rfl, rfl, rfl, rfl⟩ rfl rfl rfl rfl rfl (by kernel_rfl) Try.func7 (by kernel_rfl)
    (of_decide_eq_true (by kernel_rfl)) (by unfold Func.isWrapper; first | (rw [if_pos (by decide +kernel)]; kernel_rfl) | (rw [if_neg (by decide +kernel)]; exact ⟨rfl, rfl⟩))
    (fun os started H enc _ => lifted os started H enc)

theorem proved : Rows.PartsGoneSaid := over
#print axioms proved
end Go.Proofs.Ytlahccmlnbdekaa.partsGone
