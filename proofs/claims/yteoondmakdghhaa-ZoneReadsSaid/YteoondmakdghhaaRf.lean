/-
  Contracts of the functions that the program's Append hands to command. Contract of what the program's Append does for each block. Contracts of the program's Finish, Reset and Append. Contracts of the program's Append. Contract of the law's All: so many blocks of one octet. Contract of the law's Do. How devices and acts that come in are opened.
-/
import Derived.Test.YteoondmakdghhaaRe
import Derived.Deep.DeepCutAuto
import Derived.Test.YteoondmakdghhaaRa
import Derived.Laws.Cover1
import Derived.Test.YteoondmakdghhaaRb
import Derived.Laws.ResultCell
namespace Go.Proofs.Yteoondmakdghhaa
set_option maxRecDepth 100000
open Go.ChangeShapes Go.WideShapes Go.ChangeAt Go.RowKit
set_option linter.unusedVariables false
set_option linter.unusedSimpArgs false
set_option maxRecDepth 100000
/-- Does a zone take so many blocks? -/
def pA (zs : List Zn) (mo size : Int) (n : Nat) (x : Zn) : Bool := if emptyZ x && decide (mo ≤ (openN zs : Int)) then false else !x.full && decide ((n : Int) ≤ size - (x.b.length : Int))
/-- A zone with one block more. -/
def fA (s : ByteArray) (size : Int) (i : Nat) (x : Zn) : Zn := ⟨x.b ++ [s.extract (64 * i) (64 * i + 64)], x.firm, decide ((x.b.length : Int) + 1 = size)⟩
set_option maxHeartbeats 8000000 in
theorem app1_any (zs : List Zn) (size mo fuel bad : Int) (off : Bool) (A0 : Option Addr) (n0 c0 BD BM : Nat) (n : Nat) (x : Zn) (A : Option Addr) (c : Nat) (w : World) (hl : zs.length ≤ 100000) (hx : x.b.length ≤ 100000) (h1 : 1 ≤ size) (h2 : size ≤ 300)
    (hd : Bx w BD 24 #[.slice A0 n0 c0, .int .i64 size, .int .i64 mo, .int .i64 fuel, .bool off, .int .i64 bad]) (hm : Bx w BM 3 #[.int .i64 n]) (ht : Zns w w.heap.size (.slice A0 n0 c0) zs) :
    Calls Try.prog 37 #[.agg #[.slice A x.b.length c, .int .i64 x.firm, .bool x.full], .pointer (some ⟨BD, 0, none⟩), .pointer (some ⟨BM, 0, none⟩)] w fun e w' => e = .returned (.bool (pA zs mo size n x)) ∧ Q w w' := by
  have HT := Lib.hid ht
  have CE := Lib.hid (fun y => empZ_any x A c y)
  have CO := Lib.hid (fun (y : World) (q : Q w y) => opened_any zs _ y hl (ht.on q))
  have HV : Hid (∀ e k, emptyZ x = e → openN zs = k → pA zs mo size n x = if e && decide (mo ≤ (k : Int)) then false else !x.full && decide ((n : Int) ≤ size - (x.b.length : Int))) := Lib.hid (fun e k he hk => by subst he hk; rfl)
  obtain ⟨RES, hRES⟩ : ∃ r, r = pA zs mo size n x := ⟨_, rfl⟩
  rw [← hRES] at HV ⊢
  obtain ⟨E, hE⟩ : ∃ e, e = emptyZ x := ⟨_, rfl⟩
  obtain ⟨K, hK⟩ : ∃ k, k = openN zs := ⟨_, rfl⟩
  have HV2 := Lib.hid (HV.out E K hE.symm hK.symm)
  rw [← hE] at CE
  rw [← hK] at CO
  rw [znV] at CE
  clear hRES hE hK HV ht
  obtain ⟨bs, firm, full⟩ := x
  simp only at CE HV2 hx ⊢
  obtain ⟨m, hm0⟩ : ∃ m, m = bs.length := ⟨_, rfl⟩
  rw [← hm0] at CE HV2 hx ⊢
  clear hm0
  have bz := Bx.new w 45 #[.slice A m c, .int .i64 firm, .bool full]
  have q0 := (Q.refl w).alloc (.cells #[.slice A m c, .int .i64 firm, .bool full] 45)
  obtain ⟨W0, hW0⟩ : ∃ z, z = w.alloc (.cells #[.slice A m c, .int .i64 firm, .bool full] 45) := ⟨_, rfl⟩
  rw [← hW0] at bz q0
  have BZ := Lib.hid bz
  have Q0 := Lib.hid q0
  have BD0 := Lib.hid (hd.on q0)
  have BM0 := Lib.hid (hm.on q0)
  clear bz q0 hd hm
  go_enter Try.func37, Try.ntmps37
  go_upto_region 1 with fail
  rw [← hW0]
  clear hW0
  have KS : Hid (∀ x, Q W0 x → (fun W => W.cell? ⟨w.heap.size, 0, none⟩ = some (.slice A m c) ∧ W.cell? ⟨w.heap.size, 1, none⟩ = some (.int .i64 firm) ∧ W.cell? ⟨w.heap.size, 2, none⟩ = some (.bool full) ∧ W.cell? ⟨BD, 0, none⟩ = some (.slice A0 n0 c0) ∧ W.cell? ⟨BD, 2, none⟩ = some (.int .i64 mo)) x) := Lib.hid (fun x q => ⟨(BZ.out.on q).cell 0, (BZ.out.on q).cell 1, (BZ.out.on q).cell 2, (BD0.out.on q).cell 0, (BD0.out.on q).cell 2⟩)
  have q5 := (Q.refl W0).drew
  refine wp_region_held_drew (S := (fun W => W.cell? ⟨w.heap.size, 0, none⟩ = some (.slice A m c) ∧ W.cell? ⟨w.heap.size, 1, none⟩ = some (.int .i64 firm) ∧ W.cell? ⟨w.heap.size, 2, none⟩ = some (.bool full) ∧ W.cell? ⟨BD, 0, none⟩ = some (.slice A0 n0 c0) ∧ W.cell? ⟨BD, 2, none⟩ = some (.int .i64 mo))) (by kernel_rfl) (KS.out _ q5) (fun hHeld => ?_)
  refine tkV 0 ?_
  refine aR [1] ?_
  refine AllReadyH.cons (o := _) rfl (fun K_ hK => ?_) AllReadyH.nil
  go_simp
  go_at_call 38
  refine (CE.out _).mono ?_
  rintro e w5 ⟨rfl, d5⟩
  have q6 := q5.trans d5
  refine hK.out _ _ (KS.out _ q6) (fun hHeld2 => ?_)
  clear hK K_
  refine pg ?_
  clear q5 d5
  cases E with
  | false =>
    refine tkV 2 ?_
    refine tkU 3 ?_
    refine tkU 4 ?_
    refine tkU 5 ?_
    refine tkU 6 ?_
    refine tkU 7 ?_
    refine tkU 8 ?_
    refine tkV 9 ?_
    refine wpAnyH_done (by kernel_rfl) ?_ _
    clear hHeld hHeld2
    have HV3 : Hid (RES = (!full && decide ((n : Int) ≤ size - (m : Int)))) := Lib.hid (by rw [HV2.out]; simp)
    have Q6 := Lib.hid q6
    clear q6
    have y0 : w5.cell? ⟨w.heap.size, 0, none⟩ = some (.slice A m c) := (BZ.out.on Q6.out).cell 0
    have y2 : w5.cell? ⟨w.heap.size, 2, none⟩ = some (.bool full) := (BZ.out.on Q6.out).cell 2
    have u1 : w5.cell? ⟨BD, 1, none⟩ = some (.int .i64 size) := (BD0.out.on Q6.out).cell 1
    have t0 : w5.cell? ⟨BM, 0, none⟩ = some (.int .i64 n) := (BM0.out.on Q6.out).cell 0
    cases full with
    | true =>
      have HV4 : Hid (RES = false) := Lib.hid (by rw [HV3.out]; simp)
      go_wp2_with fail
      go_ret
      exact ⟨by rw [HV4.out]; rfl, Q0.out.trans Q6.out⟩
    | false =>
      have HV4 : Hid (RES = decide ((n : Int) ≤ size - (m : Int))) := Lib.hid (by rw [HV3.out]; simp)
      go_wp2_with fail
      go_ret
      exact ⟨by rw [HV4.out]; rfl, Q0.out.trans Q6.out⟩
  | true =>
    refine tkV 2 ?_
    refine tkV 3 ?_
    refine tkV 4 ?_
    refine tkV 6 ?_
    refine tkV 7 ?_
    refine aR [5] ?_
    refine AllReadyH.cons (o := _) rfl (fun K_ hK => ?_) AllReadyH.nil
    go_simp
    go_at_call 35
    refine (CO.out _ (Q0.out.trans q6)).mono ?_
    rintro e w6 ⟨rfl, d6⟩
    have q7 := q6.trans d6
    refine hK.out _ _ (KS.out _ q7) (fun hHeld3 => ?_)
    clear hK K_
    refine pg ?_
    refine tkB 8 (.bool (decide (mo ≤ (K : Int)))) ?_
    refine tkB 9 (.bool (decide (mo ≤ (K : Int)))) ?_
    refine wpAnyH_done (by kernel_rfl) ?_ _
    clear hHeld hHeld2 hHeld3
    have Q6 := Lib.hid q7
    clear q6 q7 d6
    by_cases hk : mo ≤ (K : Int)
    · have HV3 : Hid (RES = false) := Lib.hid (by rw [HV2.out]; simp [hk])
      have hk3 : ¬ (K : Int) < mo := by omega
      go_wp2_with fail
      go_ret
      exact ⟨by rw [HV3.out]; rfl, Q0.out.trans Q6.out⟩
    · have HV3 : Hid (RES = (!full && decide ((n : Int) ≤ size - (m : Int)))) := Lib.hid (by rw [HV2.out]; simp [hk])
      have hk3 : (K : Int) < mo := by omega
      have y0 : w6.cell? ⟨w.heap.size, 0, none⟩ = some (.slice A m c) := (BZ.out.on Q6.out).cell 0
      have y2 : w6.cell? ⟨w.heap.size, 2, none⟩ = some (.bool full) := (BZ.out.on Q6.out).cell 2
      have u1 : w6.cell? ⟨BD, 1, none⟩ = some (.int .i64 size) := (BD0.out.on Q6.out).cell 1
      have t0 : w6.cell? ⟨BM, 0, none⟩ = some (.int .i64 n) := (BM0.out.on Q6.out).cell 0
      cases full with
      | true =>
        have HV4 : Hid (RES = false) := Lib.hid (by rw [HV3.out]; simp)
        go_wp2_with fail
        go_ret
        exact ⟨by rw [HV4.out]; rfl, Q0.out.trans Q6.out⟩
      | false =>
        have HV4 : Hid (RES = decide ((n : Int) ≤ size - (m : Int))) := Lib.hid (by rw [HV3.out]; simp)
        go_wp2_with fail
        go_ret
        exact ⟨by rw [HV4.out]; rfl, Q0.out.trans Q6.out⟩
end Go.Proofs.Yteoondmakdghhaa

namespace Go.Proofs.Yteoondmakdghhaa
set_option maxRecDepth 100000
open Go.ChangeShapes Go.WideShapes Go.ChangeAt Go.RowKit
set_option linter.unusedVariables false
set_option linter.unusedSimpArgs false
set_option maxRecDepth 100000
theorem ZB.like {w : World} {R : Nat} {P : List (Zn × Value)} {k : Nat} {y y' : Zn} {u : Value} (h : ZB w R (P.set k (y, u))) (hk : k < P.length) (e1 : y.firm = y'.firm) (e2 : y.full = y'.full) : ZB w R (P.set k (y', u)) := by
  unfold ZB at h ⊢
  rw [zset P k hk] at h ⊢
  simp only at h ⊢
  rw [← e1, ← e2]; exact h
set_option maxHeartbeats 8000000 in
theorem app2_any (i k R s BS BD : Nat) (x : Zn) (v : Value) (P : List (Zn × Value)) (a : Addr) (b : World) (t : ByteArray) (A0 : Option Addr) (n0 c0 : Nat) (size mo fuel bad : Int) (off : Bool) (hRs : R < s) (hsb : s ≤ b.heap.size) (ha : a = ⟨R, 0, none⟩) (hp : P[k]? = some (x, v)) (hz : ZB b R P) (hv : AptT R s b v x.b)
    (hS : Bx b BS 9 #[.string t]) (hD : Bx b BD 24 #[.slice A0 n0 c0, .int .i64 size, .int .i64 mo, .int .i64 fuel, .bool off, .int .i64 bad]) (hBS : BS < R) (hBD : BD < R) (hi : 64 * i + 64 ≤ t.size) (ht : t.size ≤ 100000000) (hx : x.b.length ≤ 100000) :
    Calls Try.prog 40 #[.pointer (some (a.add (k * 3))), .int .i64 i, .pointer (some ⟨BS, 0, none⟩), .pointer (some ⟨BD, 0, none⟩)] b (StepC P k (fA t size i x) R s b) := by
  obtain ⟨hk, e⟩ := List.getElem?_eq_some_iff.1 hp
  obtain ⟨z0, -, -, f0, -⟩ := hz.at ha k hk
  rw [e] at z0
  obtain ⟨A, c, hvf⟩ : ∃ A c, v = .slice A x.b.length c := by
    rcases hv with ⟨g, t, -⟩ | h
    · exact ⟨_, _, t.1⟩
    · exact h.form
  have x0 := hS.cell 0
  simp only [List.getElem?_toArray, List.getElem?_cons_zero] at x0
  have HA := Lib.hid ha
  have HZ := Lib.hid hz
  have HE := Lib.hid e
  have HVV := Lib.hid hv
  have HS := Lib.hid hS
  have HD := Lib.hid hD
  have HVF := Lib.hid hvf
  simp only at z0
  rw [hvf] at z0
  obtain ⟨n, hn⟩ : ∃ n, n = x.b.length := ⟨_, rfl⟩
  rw [← hn] at z0
  have HN := Lib.hid hn
  have hn2 : n ≤ 100000 := by omega
  have HY : Hid (∀ y, ZB y R P → y.cell? (a.add (k * 3)) = some (.slice A n c) ∧ y.frozen? (a.add (k * 3)) = false) := Lib.hid (fun y hy => by
    have h := hy.at HA.out k hk
    refine ⟨?_, h.2.2.2.1⟩
    rw [HN.out, ← HVF.out]
    have h1 := h.1
    rw [HE.out] at h1
    exact h1)
  obtain ⟨p, hp1⟩ : ∃ p, p = 64 * i := ⟨_, rfl⟩
  obtain ⟨q, hq1⟩ : ∃ q, q = 64 * i + 64 := ⟨_, rfl⟩
  have ep : (i : Int) * 64 = (p : Int) := by omega
  have eq : ((i : Int) + 1) * 64 = (q : Int) := by omega
  have hpq : p ≤ q := by omega
  have hqt : q ≤ t.size := by omega
  have hi2 : i ≤ 100000000 := by omega
  have hw1 : IntKind.i64.wrap (p : Int) = (p : Int) := by rw [IntKind.wrap_i64] <;> omega
  have hw2 : IntKind.i64.wrap ((i : Int) + 1) = (i : Int) + 1 := by rw [IntKind.wrap_i64] <;> omega
  have hw3 : IntKind.i64.wrap (q : Int) = (q : Int) := by rw [IntKind.wrap_i64] <;> omega
  have hqt' : (q : Int) ≤ (t.size : Int) := by omega
  have hpq' : (p : Int) ≤ (q : Int) := by omega
  have HX : Hid (t.extract p q = t.extract (64 * i) (64 * i + 64)) := Lib.hid (by rw [hp1, hq1])
  obtain ⟨tx, htx⟩ : ∃ y, y = t.extract p q := ⟨_, rfl⟩
  have HTX := Lib.hid htx
  clear hz hp hv hS hD hvf hn hp1 hq1 e ha
  have z0a := (HY.out _ (Bx.on HZ.out ((Q.refl b).alloc (.cells #[.string (t.extract p q)] 9)))).1
  go_enter Try.func40, Try.ntmps40
  go_wp2_with fail
  go_cut [] from 6 to 21 (fun wx => ∃ (A4 : Option Addr) (n4 c4 : Nat) (w4 : World), wx = w4.setCell (a.add (k * 3)) (.slice A4 n4 c4) ∧ Hid (OwnT s w4 (.slice A4 n4 c4) (x.b ++ [t.extract p q])) ∧ Hid (Below s b w4) ∧ Hid (ZB w4 R P))
  case first =>
    go_region_law (refine step_snoc_apt _ rfl (.tmp 10) (.tmp 18) rfl R s b.heap.size 1 (.slice A n c) x.b (t.extract p q) (by simp [Act.eval, Act.put]) (by simp [Act.eval, Act.put]) (by rw [HN.out, ← HVF.out]; exact HVV.out.on (((Q.refl _).alloc _).drew)) (by simp) (by simp; try omega) (by omega) ?_; intro A4 n4 c4 w4 hown hbel; have zz : ZB w4 R P := Bx.same (Bx.on HZ.out (((Q.refl b).alloc (.cells #[.string (t.extract p q)] 9)).drew)) (hbel.out.block R hRs); obtain ⟨y0, y1⟩ := HY.out _ zz; have ZZ := Lib.hid zz; have HBB : Hid (Below s b w4) := Lib.hid (Below.trans (Below.mono (((Q.refl b).alloc (.cells #[.string (t.extract p q)] 9)).drew) hsb) hbel.out); clear zz hbel)
    all_goals (go_wp2_with fail)
    all_goals go_meet
    all_goals exact ⟨_, _, _, _, rfl, by assumption, by assumption, by assumption⟩
  case rest =>
  obtain ⟨A4, n4, c4, w4, rfl, hown, HBB, ZZ⟩ := hcut
  have hn4 : n4 = n + 1 := by
    obtain ⟨A', c', e⟩ := hown.out.form
    injection e with e1 e2 e3
    rw [e2, List.length_append, HN.out]; rfl
  have hzz := ZZ.out.put HA.out k hk (.slice A4 n4 c4)
  rw [HE.out] at hzz
  have hD5 : Bx (w4.setCell (a.add (k * 3)) (.slice A4 n4 c4)) BD 24 #[.slice A0 n0 c0, .int .i64 size, .int .i64 mo, .int .i64 fuel, .bool off, .int .i64 bad] := by
    rw [HA.out, add_flat]
    exact Bx.other (B2 := R) (HD.out.same (HBB.out.block BD (by omega))) (by omega) _ _
  have hO5 : OwnT s (w4.setCell (a.add (k * 3)) (.slice A4 n4 c4)) (.slice A4 n4 c4) (x.b ++ [t.extract p q]) := by
    rw [HA.out, add_flat]
    exact OwnT.kept2 hown.out fun j h1 h2 => heap_set w4 R (k * 3) _ (by omega)
  have hB5 : Below R b (w4.setCell (a.add (k * 3)) (.slice A4 n4 c4)) := by
    rw [HA.out, add_flat]
    exact Below.setCell (B := R) (Below.mono HBB.out (Nat.le_of_lt hRs)) (p := ⟨R, k * 3, none⟩) (Nat.le_refl _) _
  have hK5 : ∀ j, R < j → j < s → (w4.setCell (a.add (k * 3)) (.slice A4 n4 c4)).heap[j]? = b.heap[j]? := by
    rw [HA.out, add_flat]
    intro j h1 h2
    rw [heap_set w4 R (k * 3) _ (by omega)]; exact HBB.out.block j h2
  obtain ⟨w5, hw5⟩ : ∃ z, z = w4.setCell (a.add (k * 3)) (.slice A4 n4 c4) := ⟨_, rfl⟩
  rw [← hw5] at hzz hD5 hO5 hB5 hK5 ⊢
  have hk5 : k < (P.set k (x, Value.slice A4 n4 c4)).length := by rw [List.length_set]; exact hk
  obtain ⟨y0, -, y2, -, -, g2⟩ := hzz.at HA.out k hk5
  simp only [List.getElem_set_self] at y0 y2
  have u1 := hD5.cell 1
  simp only [List.getElem?_toArray, List.getElem?_cons_succ, List.getElem?_cons_zero] at u1
  have HZZ := Lib.hid hzz
  have HO5 := Lib.hid hO5
  have HB5 := Lib.hid hB5
  have HK5 := Lib.hid hK5
  have HF : Hid (∀ bb, (bb = decide ((n : Int) + 1 = size)) → fA t size i x = ⟨x.b ++ [t.extract p q], x.firm, bb⟩) := Lib.hid (fun bb h => by unfold fA; rw [h, HX.out, HN.out])
  clear hzz hD5 hO5 hB5 hK5 hw5 z0 z0a x0 f0 hown HBB ZZ hk5
  have FIN : Hid (∀ bb y, bb = decide ((n : Int) + 1 = size) → Q (w5.setCell ⟨(a.add (k * 3)).block, (a.add (k * 3)).off + 2, none⟩ (.bool bb)) y → StepC P k (fA t size i x) R s b (.returned (.tuple #[])) y) := Lib.hid (fun bb y hb hy => by
    rw [HF.out bb hb]
    have h2 := HZZ.out.put2 HA.out k (by rw [List.length_set]; exact hk) bb
    simp only [List.set_set, List.getElem_set_self] at h2
    have h3 := (ZB.like h2 hk (y' := ⟨x.b ++ [t.extract p q], x.firm, bb⟩) rfl rfl)
    rw [HA.out, add_flat] at hy h3
    have hsz : w5.heap.size ≤ y.heap.size := by have := hy.size; simpa using this
    refine ⟨.slice A4 n4 c4, rfl, Bx.on h3 hy, .inr (OwnT.on (OwnT.kept2 HO5.out fun j h1 h2 => heap_set w5 R (k * 3 + 2) _ (by omega)) hy), ?_, fun j h1 h2 => ?_⟩
    · exact Below.trans (Below.setCell HB5.out (p := ⟨R, k * 3 + 2, none⟩) (Nat.le_refl _) _) (Below.mono hy (by have := Bx.lt h3; omega))
    · have hjl : j < w5.heap.size := Nat.lt_of_lt_of_le (Nat.lt_of_lt_of_le h2 hsb) HB5.out.size
      rw [hy.block j (by simpa using hjl), heap_set w5 R (k * 3 + 2) _ (by omega)]; exact HK5.out j h1 h2)
  by_cases hc : (n : Int) + 1 = size
  · have hv4 : ((n4 : Int) == size) = true := by rw [beq_iff_eq, hn4]; omega
    have hd : Hid (true = decide ((n : Int) + 1 = size)) := Lib.hid (by simp [hc])
    clear hc hn4
    go_wp2_with fail
    go_region
    go_wp2
    exact bodyPost_end (results_none rfl _ _ _) rfl (FIN.out _ _ hd.out (Q.refl _).drew)
  · have hv4 : ((n4 : Int) == size) = false := by rw [beq_eq_false_iff_ne, hn4]; omega
    have hd : Hid (false = decide ((n : Int) + 1 = size)) := Lib.hid (by simp [hc])
    clear hc hn4
    go_wp2_with fail
    go_region
    go_wp2
    exact bodyPost_end (results_none rfl _ _ _) rfl (FIN.out _ _ hd.out (Q.refl _).drew)
end Go.Proofs.Yteoondmakdghhaa

namespace Go.Proofs.Yteoondmakdghhaa
set_option maxRecDepth 100000
open Go.ChangeShapes Go.WideShapes Go.ChangeAt Go.RowKit
set_option linter.unusedVariables false
set_option linter.unusedSimpArgs false
set_option maxRecDepth 100000
/-- Zones cannot lie in a device's box: they stay where that is written. -/
theorem Zns.off {w w' : World} {B : Nat} {v : Value} {l : List Zn} {t : TypeId} {A : Option Addr} {n c : Nat} {i1 i2 i3 i5 : Int} {b4 : Bool} (h : Zns w w.heap.size v l) (b : Bx w B t #[.slice A n c, .int .i64 i1, .int .i64 i2, .int .i64 i3, .bool b4, .int .i64 i5])
    (k : ∀ j, j ≠ B → w'.heap[j]? = w.heap[j]?) (hs : w.heap.size ≤ w'.heap.size) : Zns w' w'.heap.size v l := by
  have hb : w.heap[B]? = some (.cells #[.slice A n c, .int .i64 i1, .int .i64 i2, .int .i64 i3, .bool b4, .int .i64 i5] t (0, 0)) := b
  have nostr : ∀ (q : Addr) (s : ByteArray), w.cell? q = some (.string s) → q.block ≠ B := by
    rintro ⟨qb, qo, qx⟩ s h e
    simp only at e
    subst e
    cases qx with
    | none =>
      simp [World.cell?, hb] at h
      match qo, h with
      | 0, h => simp at h
      | 1, h => simp at h
      | 2, h => simp at h
      | 3, h => simp at h
      | 4, h => simp at h
      | 5, h => simp at h
      | (_ + 6), h => simp at h
    | some _ => simp [World.cell?, hb] at h
  obtain ⟨A1, c1, e, e0, ez, eo, f⟩ := h
  refine ⟨A1, c1, e, e0, ez, eo, fun i hi => ?_⟩
  obtain ⟨a, e1, e2, h1, h2, u, h3, h4⟩ := f i hi
  have hne : (a.add (i * 3)).block ≠ B := by
    obtain ⟨A2, c2, rfl, -⟩ := h4
    intro e
    have g2 : w.cell? ⟨B, (a.add (i * 3)).off + 2, none⟩ = some (.bool l[i].full) := by rw [← e]; exact h2
    rw [b.cell] at g2
    have hoff : (a.add (i * 3)).off = 2 := by
      match ho : (a.add (i * 3)).off, g2 with
      | 0, g => simp at g
      | 1, g => simp at g
      | 2, g => rfl
      | 3, g => simp at g
      | (_ + 4), g => simp at g
    have key : ∀ p : Addr, p.block = B → p.off = 2 → w.cell? p = some (.slice A2 l[i].b.length c2) → False := by
      rintro ⟨pb, po, px⟩ e hoff h3
      simp only at e hoff
      subst e hoff
      cases px with
      | none => simp [World.cell?, hb] at h3
      | some _ => simp [World.cell?, hb] at h3
    exact key _ e hoff h3
  have keep : ∀ q : Addr, q.block ≠ B → w'.cell? q = w.cell? q := fun q hq => World.cell?_of_block (k _ hq)
  refine ⟨a, e1, Nat.lt_of_lt_of_le e2 hs, (keep ⟨(a.add (i * 3)).block, (a.add (i * 3)).off + 1, none⟩ hne).trans h1, (keep ⟨(a.add (i * 3)).block, (a.add (i * 3)).off + 2, none⟩ hne).trans h2, u, (keep _ hne).trans h3, ?_⟩
  obtain ⟨A2, c2, g1, g2, g3, g4⟩ := h4
  refine ⟨A2, c2, g1, g2, g3, fun j hj => ?_⟩
  obtain ⟨q, q1, q2, q3⟩ := g4 j hj
  exact ⟨q, q1, Nat.lt_of_lt_of_le q2 hs, (keep _ (nostr _ _ q3)).trans q3⟩
theorem at_burn (d : Dv) (k : Nat) : atZn (burnD d).1 k = atZn d k := by unfold atZn; rw [burn_zs]
def fF (_ : Nat) (x : Zn) : Zn := { x with full := true }
def fR (_ : Nat) (_ : Zn) : Zn := noZn
theorem empty_len {n : Int} {x : Zn} (h : okZn n x = true) : emptyZ x = decide (x.b.length = 0) := by
  have := (okZn_iff.1 h).2.2.2.2.2
  unfold emptyZ
  by_cases e : x.b.length = 0
  · simp [e, this e]
  · simp [e]
theorem run_write (k : Nat) (s : ByteArray) : ∀ (n i : Nat) (d : Dv), k < d.zs.length → runD k (fA s d.size) i n d = writeD k d (atZn d k) ((List.range' i n).map fun i => s.extract (64 * i) (64 * i + 64))
  | 0, _, d, _ => rfl
  | n + 1, i, d, hk => by
    rw [runD, List.range'_succ, List.map_cons, writeD, at_burn]
    split
    · have hs : (setZn (burnD d).1 k (fA s d.size i (atZn d k))).size = d.size := burn_sz d
      have hl : k < (setZn (burnD d).1 k (fA s d.size i (atZn d k))).zs.length := by simp [setZn, burn_zs]; exact hk
      have ih := run_write k s n (i + 1) (setZn (burnD d).1 k (fA s d.size i (atZn d k))) hl
      rw [hs] at ih
      rw [ih]
      have hat : atZn (setZn (burnD d).1 k (fA s d.size i (atZn d k))) k = fA s d.size i (atZn d k) := by
        unfold atZn setZn
        rw [List.getElem?_set_self (by rw [burn_zs]; exact hk)]; rfl
      rw [hat]; rfl
    · rfl
theorem app_cmd {d : Dv} {z : Int} {s : ByteArray} (h0 : s.size ≠ 0) (h1 : s.size % 64 = 0) : appD d z s = cmdD d z (pA d.zs d.mo d.size (s.size / 64)) (s.size / 64) (fA s d.size) := by
  unfold appD cmdD
  by_cases hm : mayD d = false
  · rw [if_pos (.inl hm), if_pos hm]
  · rw [if_neg (by rintro (h | h | h); exact hm h; exact h0 h; exact h h1), if_neg hm]
    split
    · rename_i hz
      have hm' : mayD d = true := by simpa using hm
      have hi : z.toNat < d.zs.length := by have h1 := hz.1; have h2 := hz.2; omega
      have ho := (mayD_iff.1 hm').2.2.2.2.2.2.2.1 _ (List.getElem_mem hi)
      have hw := run_write z.toNat s (s.size / 64) 0 d hi
      rw [hw, ← List.range_eq_range', atZn_is hi]
      have hp : pA d.zs d.mo d.size (s.size / 64) d.zs[z.toNat] = true ↔ ¬ (d.zs[z.toNat].full = true ∨ d.size < (d.zs[z.toNat].b.length : Int) + (s.size / 64 : Nat) ∨ (d.zs[z.toNat].b.length = 0 ∧ d.mo ≤ openN d.zs)) := by
        unfold pA
        rw [empty_len ho]
        by_cases a : d.zs[z.toNat].b.length = 0 <;> by_cases b : d.mo ≤ (openN d.zs : Int) <;> cases c : d.zs[z.toNat].full <;> simp [a, b] <;> omega
      by_cases hc : d.zs[z.toNat].full = true ∨ d.size < (d.zs[z.toNat].b.length : Int) + (s.size / 64 : Nat) ∨ (d.zs[z.toNat].b.length = 0 ∧ d.mo ≤ openN d.zs)
      · rw [if_pos hc, if_neg (fun e => hp.1 e hc)]
      · rw [if_neg hc, if_pos (hp.2 hc)]; rfl
    · rfl
/-- The blocks that a zone has while it is appended to. -/
def jA (t : ByteArray) (size : Int) (n i : Nat) (x : Zn) : Prop := okZ x ∧ (x.b.length : Int) + ((n - i : Nat) : Int) ≤ size
set_option maxHeartbeats 8000000 in
theorem appC_any (d : Dv) (u : Value) (z : Int) (t : ByteArray) (A0 : Option Addr) (c0 BD BS BM : Nat) (w : World) (hd : smD d) (hb : okN d) (h0 : t.size ≠ 0) (h1 : t.size % 64 = 0) (h2 : t.size ≤ 6400000) (hu : u = .slice A0 d.zs.length c0) (ht : Zns w w.heap.size u d.zs)
    (hD : Bx w BD 24 #[.slice A0 d.zs.length c0, .int .i64 d.size, .int .i64 d.mo, .int .i64 d.fuel, .bool d.off, .int .i64 d.bad]) (hS : Bx w BS 9 #[.string t]) (hM : Bx w BM 3 #[.int .i64 (t.size / 64 : Nat)]) :
    Calls Try.prog 39 #[dvV d u, .int .i64 z, .func (.func 37) #[] #[.pointer (some ⟨BD, 0, none⟩), .pointer (some ⟨BM, 0, none⟩)], .int .i64 (t.size / 64 : Nat), .func (.func 40) #[] #[.pointer (some ⟨BS, 0, none⟩), .pointer (some ⟨BD, 0, none⟩)]] w (DevC (appD d z t) w) := by
  rw [app_cmd h0 h1]
  refine cmd_any d u z w (pA d.zs d.mo d.size (t.size / 64)) (fA t d.size) (fun i x => mayD d = true ∧ jA t d.size (t.size / 64) i x) (t.size / 64) 37 40 _ _ (enters_of Try.func37 (by kernel_rfl) rfl) (enters_of Try.func40 (by kernel_rfl) rfl) (by omega) hd hb ht ?_ ?_ ?_ ?_
  · intro k h e hm b A c q
    have hm2 := mayD_iff.1 hm
    subst hu
    exact app1_any d.zs d.size d.mo d.fuel d.bad d.off A0 d.zs.length c0 BD BM (t.size / 64) d.zs[k] A c b hd.1 (hd.2 _ (List.getElem_mem h)) hm2.2.2.1 hm2.2.2.2.1 (hD.on q) (hM.on q) (ht.on q)
  · intro k h e hm hp
    refine ⟨hm, ht.okAll _ (List.getElem_mem h), ?_⟩
    unfold pA at hp
    split at hp
    · cases hp
    · simp only [Bool.and_eq_true, decide_eq_true_eq] at hp
      have := hp.2
      rw [Nat.sub_zero]
      omega
  · rintro i x hi ⟨hm, hx, hj⟩
    have hm2 := mayD_iff.1 hm
    have h300 := hm2.2.2.2.1
    have hl : (fA t d.size i x).b.length = x.b.length + 1 := by simp [fA]
    refine ⟨⟨by rw [hl]; unfold maxLen; omega, hx.2⟩, hm, ⟨by rw [hl]; unfold maxLen; omega, hx.2⟩, ?_⟩
    rw [hl]
    omega
  · rintro i k R s x v P a b hi ⟨hm, hx, hj⟩ q h3 h4 h5 ha hp hz hv
    have hm2 := mayD_iff.1 hm
    have h300 := hm2.2.2.2.1
    subst hu
    exact app2_any i k R s BS BD x v P a b t A0 d.zs.length c0 d.size d.mo d.fuel d.bad d.off h4 h5 ha hp hz hv (hS.on q) (hD.on q) (by have := Bx.lt hS; omega) (by have := Bx.lt hD; omega) (by omega) (by omega) (by omega)
end Go.Proofs.Yteoondmakdghhaa

namespace Go.Proofs.Yteoondmakdghhaa
set_option maxRecDepth 100000
open Go.ChangeShapes Go.WideShapes Go.ChangeAt Go.RowKit
set_option linter.unusedVariables false
set_option linter.unusedSimpArgs false
set_option maxRecDepth 100000
set_option maxHeartbeats 8000000 in
theorem appZ_any (d : Dv) (u : Value) (z : Int) (t : ByteArray) (w : World) (hd : smD d) (hb : okN d) (h2 : t.size ≤ 6400000) (ht : Zns w w.heap.size u d.zs) : Calls Try.prog 23 #[dvV d u, .int .i64 z, .string t] w (DevC (appD d z t) w) := by
  obtain ⟨A0, c0, rfl⟩ := ht.form
  obtain ⟨n0, hn0⟩ : ∃ n, n = d.zs.length := ⟨_, rfl⟩
  have HN0 := Lib.hid hn0
  rw [← hn0] at ht ⊢
  have HV1 : Hid (t.size = 0 ∨ t.size % 64 ≠ 0 → appD d z t = (noDv, 1)) := Lib.hid (fun h => by unfold appD; rw [if_pos (.inr h)])
  obtain ⟨RES, hRES⟩ : ∃ r, r = appD d z t := ⟨_, rfl⟩
  have C := Lib.hid (fun (x : World) (q : Q w x) (BD BS BM : Nat) (h0 : t.size ≠ 0) (h1 : t.size % 64 = 0) (hD : Bx x BD 24 #[.slice A0 d.zs.length c0, .int .i64 d.size, .int .i64 d.mo, .int .i64 d.fuel, .bool d.off, .int .i64 d.bad]) (hS : Bx x BS 9 #[.string t]) (hM : Bx x BM 3 #[.int .i64 (t.size / 64 : Nat)]) => appC_any d (.slice A0 n0 c0) z t A0 c0 BD BS BM x hd hb h0 h1 h2 (by rw [hn0]) (ht.on q) hD hS hM)
  rw [← hRES] at C HV1 ⊢
  rw [← hn0] at C
  clear ht hb hd hn0 hRES
  obtain ⟨zs, size, mo, fuel, off, bad⟩ := d
  rw [dvV] at C ⊢
  simp only at C HN0 ⊢
  have HP1 : Hid (∀ (e : Unit) w', RES = (noDv, 1) → Q w w' → DevC RES w (.returned (.tuple #[.agg #[.slice none 0 0, .int .i64 0, .int .i64 0, .int .i64 0, .bool false, .int .i64 0], .int .i64 1])) w') := Lib.hid (fun _ w' h q => by rw [h]; exact ⟨.slice none 0 0, rfl, Zns.nil _ _, q⟩)
  obtain ⟨⟨zs7, s7, m7, f7, o7, b7⟩, e7⟩ := RES
  unfold DevC dvV at C
  simp only at C
  have HPO : Hid (∀ e w', (∃ v, e = .returned (.tuple #[.agg #[v, .int .i64 s7, .int .i64 m7, .int .i64 f7, .bool o7, .int .i64 b7], .int .i64 (e7 : Nat)]) ∧ Zns w' w'.heap.size v zs7 ∧ Q w w') → DevC (⟨zs7, s7, m7, f7, o7, b7⟩, e7) w e w') := Lib.hid (fun e w' h => h)
  generalize DevC (⟨zs7, s7, m7, f7, o7, b7⟩, e7) w = PO at HPO HP1 ⊢
  have b0 := ((Bx.new w 24 #[.slice A0 n0 c0, .int .i64 size, .int .i64 mo, .int .i64 fuel, .bool off, .int .i64 bad]).alloc (.cells #[.string t] 9)).alloc (.cells #[.slice none 0 0, .int .i64 0, .int .i64 0, .int .i64 0, .bool false, .int .i64 0] 24)
  have b1 := (Bx.new (w.alloc (.cells #[.slice A0 n0 c0, .int .i64 size, .int .i64 mo, .int .i64 fuel, .bool off, .int .i64 bad] 24)) 9 #[.string t]).alloc (.cells #[.slice none 0 0, .int .i64 0, .int .i64 0, .int .i64 0, .bool false, .int .i64 0] 24)
  have b2 := Bx.new ((w.alloc (.cells #[.slice A0 n0 c0, .int .i64 size, .int .i64 mo, .int .i64 fuel, .bool off, .int .i64 bad] 24)).alloc (.cells #[.string t] 9)) 24 #[.slice none 0 0, .int .i64 0, .int .i64 0, .int .i64 0, .bool false, .int .i64 0]
  have q0 := (((Q.refl w).alloc (.cells #[.slice A0 n0 c0, .int .i64 size, .int .i64 mo, .int .i64 fuel, .bool off, .int .i64 bad] 24)).alloc (.cells #[.string t] 9)).alloc (.cells #[.slice none 0 0, .int .i64 0, .int .i64 0, .int .i64 0, .bool false, .int .i64 0] 24)
  have hs0 : (((w.alloc (.cells #[.slice A0 n0 c0, .int .i64 size, .int .i64 mo, .int .i64 fuel, .bool off, .int .i64 bad] 24)).alloc (.cells #[.string t] 9)).alloc (.cells #[.slice none 0 0, .int .i64 0, .int .i64 0, .int .i64 0, .bool false, .int .i64 0] 24)).heap.size = w.heap.size + 1 + 1 + 1 := by simp
  simp only [World.size_alloc] at b1 b2
  obtain ⟨W0, hW0⟩ : ∃ z, z = ((w.alloc (.cells #[.slice A0 n0 c0, .int .i64 size, .int .i64 mo, .int .i64 fuel, .bool off, .int .i64 bad] 24)).alloc (.cells #[.string t] 9)).alloc (.cells #[.slice none 0 0, .int .i64 0, .int .i64 0, .int .i64 0, .bool false, .int .i64 0] 24) := ⟨_, rfl⟩
  rw [← hW0] at b0 b1 b2 q0 hs0
  have BX0 := Lib.hid b0
  have BX1 := Lib.hid b1
  have BX2 := Lib.hid b2
  have Q0 := Lib.hid q0
  have HS0 := Lib.hid hs0
  clear b0 b1 b2 q0 hs0
  have x1 : W0.cell? ⟨w.heap.size + 1, 0, none⟩ = some (.string t) := BX1.out.cell 0
  by_cases h0 : t.size = 0
  · have HV := Lib.hid (HV1.out (.inl h0))
    obtain rfl : t = ⟨#[]⟩ := by
      cases t with
      | mk a => have h0 : a.size = 0 := h0; rw [Array.eq_empty_of_size_eq_zero h0]
    go_enter Try.func23, Try.ntmps23
    go_upto_region 1 with fail
    rw [← hW0]
    clear hW0
    obtain ⟨g0, g1, g2, g3, g4, g5⟩ : W0.cell? ⟨w.heap.size + 1 + 1, 0, none⟩ = some (.slice none 0 0) ∧ W0.cell? ⟨w.heap.size + 1 + 1, 1, none⟩ = some (.int .i64 0) ∧ W0.cell? ⟨w.heap.size + 1 + 1, 2, none⟩ = some (.int .i64 0) ∧ W0.cell? ⟨w.heap.size + 1 + 1, 3, none⟩ = some (.int .i64 0) ∧ W0.cell? ⟨w.heap.size + 1 + 1, 4, none⟩ = some (.bool false) ∧ W0.cell? ⟨w.heap.size + 1 + 1, 5, none⟩ = some (.int .i64 0) := ⟨BX2.out.cell 0, BX2.out.cell 1, BX2.out.cell 2, BX2.out.cell 3, BX2.out.cell 4, BX2.out.cell 5⟩
    have l0 := BX2.out.frozen 0
    have l1 := BX2.out.frozen 1
    have l2 := BX2.out.frozen 2
    have l3 := BX2.out.frozen 3
    have l4 := BX2.out.frozen 4
    have l5 := BX2.out.frozen 5
    have c9 := ((((((BX2.out.set 0 (.slice none 0 0)).set 1 (.int .i64 0)).set 2 (.int .i64 0)).set 3 (.int .i64 0)).set 4 (.bool false)).set 5 (.int .i64 0))
    have q9 : Q w ((((((W0.setCell ⟨w.heap.size + 1 + 1, 0, none⟩ (.slice none 0 0)).setCell ⟨w.heap.size + 1 + 1, 1, none⟩ (.int .i64 0)).setCell ⟨w.heap.size + 1 + 1, 2, none⟩ (.int .i64 0)).setCell ⟨w.heap.size + 1 + 1, 3, none⟩ (.int .i64 0)).setCell ⟨w.heap.size + 1 + 1, 4, none⟩ (.bool false)).setCell ⟨w.heap.size + 1 + 1, 5, none⟩ (.int .i64 0)) := (Q.set (Q.set (Q.set (Q.set (Q.set (Q.set Q0.out (by omega) _) (by omega) _) (by omega) _) (by omega) _) (by omega) _) (by omega) _)
    have k9 : ∀ j, j ≠ w.heap.size + 1 + 1 → ((((((W0.setCell ⟨w.heap.size + 1 + 1, 0, none⟩ (.slice none 0 0)).setCell ⟨w.heap.size + 1 + 1, 1, none⟩ (.int .i64 0)).setCell ⟨w.heap.size + 1 + 1, 2, none⟩ (.int .i64 0)).setCell ⟨w.heap.size + 1 + 1, 3, none⟩ (.int .i64 0)).setCell ⟨w.heap.size + 1 + 1, 4, none⟩ (.bool false)).setCell ⟨w.heap.size + 1 + 1, 5, none⟩ (.int .i64 0)).heap[j]? = W0.heap[j]? := fun j hne => (heap_set _ _ _ _ hne).trans ( (heap_set _ _ _ _ hne).trans ( (heap_set _ _ _ _ hne).trans ( (heap_set _ _ _ _ hne).trans ( (heap_set _ _ _ _ hne).trans ( heap_set _ _ _ _ hne)))))
    obtain ⟨w9, hw9⟩ : ∃ z, z = ((((((W0.setCell ⟨w.heap.size + 1 + 1, 0, none⟩ (.slice none 0 0)).setCell ⟨w.heap.size + 1 + 1, 1, none⟩ (.int .i64 0)).setCell ⟨w.heap.size + 1 + 1, 2, none⟩ (.int .i64 0)).setCell ⟨w.heap.size + 1 + 1, 3, none⟩ (.int .i64 0)).setCell ⟨w.heap.size + 1 + 1, 4, none⟩ (.bool false)).setCell ⟨w.heap.size + 1 + 1, 5, none⟩ (.int .i64 0)) := ⟨_, rfl⟩
    rw [← hw9] at c9 q9 k9
    simp only [List.setIfInBounds_toArray, List.set_cons_zero, List.set_cons_succ] at c9
    have C9 := Lib.hid c9
    have Q9 := Lib.hid q9
    have K9 := Lib.hid k9
    clear c9 q9 k9
    go_wp2_with fail
    rw [← hw9]
    clear hw9
    obtain ⟨k0, k1, k2, k3, k4, k5⟩ : w9.cell? ⟨w.heap.size + 1 + 1, 0, none⟩ = some (.slice none 0 0) ∧ w9.cell? ⟨w.heap.size + 1 + 1, 1, none⟩ = some (.int .i64 0) ∧ w9.cell? ⟨w.heap.size + 1 + 1, 2, none⟩ = some (.int .i64 0) ∧ w9.cell? ⟨w.heap.size + 1 + 1, 3, none⟩ = some (.int .i64 0) ∧ w9.cell? ⟨w.heap.size + 1 + 1, 4, none⟩ = some (.bool false) ∧ w9.cell? ⟨w.heap.size + 1 + 1, 5, none⟩ = some (.int .i64 0) := ⟨C9.out.cell 0, C9.out.cell 1, C9.out.cell 2, C9.out.cell 3, C9.out.cell 4, C9.out.cell 5⟩
    (try simp only [Exit.inBlock, Exit.then])
    (try simp only [Exit.inBlock, Exit.then])
    refine bodyPost_ret (v := .tuple #[.agg #[.slice none 0 0, .int .i64 0, .int .i64 0, .int .i64 0, .bool false, .int .i64 0], .int .i64 1]) ?_ rfl ?_
    · rw [results_cell_tmp rfl]
      go_simp
    · exact HP1.out () _ HV.out Q9.out
  · have ht0 : ¬ t.toList = [] := fun e => h0 ((nil_text t).1 e)
    have ht0b : t.toList.isEmpty = false := by
      cases hh : t.toList with
      | nil => exact absurd hh ht0
      | cons => rfl
    by_cases hr : t.size % 64 = 0
    · have ht2 : (t.size : Int).tmod 64 = 0 := by rw [show (64 : Int) = ((64 : Nat) : Int) by rfl, ← Int.ofNat_tmod]; omega
      have HC := Lib.hid (fun x q BD BS BM hD hS hM => C.out x q BD BS BM h0 hr hD hS hM)
      obtain ⟨m, hm⟩ : ∃ m, m = t.size / 64 := ⟨_, rfl⟩
      rw [← hm] at HC
      have ht3 : (t.size : Int).tdiv 64 = (m : Int) := by rw [show (64 : Int) = ((64 : Nat) : Int) by rfl, ← Int.ofNat_tdiv]; omega
      have ht4 : IntKind.i64.wrap (m : Int) = (m : Int) := by rw [IntKind.wrap_i64] <;> omega
      clear hm hr h0 C HV1
      go_enter Try.func23, Try.ntmps23
      go_upto_region 1 with fail
      rw [← hW0]
      clear hW0
      go_upto_region 4 with fail
      have bm := Bx.new W0 3 #[.int .i64 m]
      have qm := (Q.refl W0).alloc (.cells #[.int .i64 m] 3)
      obtain ⟨BM, hBM⟩ : ∃ x, x = W0.heap.size := ⟨_, rfl⟩
      rw [← hBM] at bm ⊢
      clear hBM
      obtain ⟨W1, hW1⟩ : ∃ x, x = W0.alloc (.cells #[.int .i64 m] 3) := ⟨_, rfl⟩
      rw [← hW1] at bm qm ⊢
      clear hW1 x1
      have Q1 := Lib.hid (Q0.out.trans qm)
      have hz0 := BX0.out.on qm
      have hz1 := BX1.out.on qm
      have BX21 := Lib.hid (BX2.out.on qm)
      have C1 := Lib.hid (HC.out W1 Q1.out (w.heap.size) (w.heap.size + 1) BM hz0 hz1 bm)
      have t8 : W1.cell? ⟨BM, 0, none⟩ = some (.int .i64 m) := bm.cell 0
      obtain ⟨x0, x1, x2, x3, x4, x5⟩ : W1.cell? ⟨w.heap.size, 0, none⟩ = some (.slice A0 n0 c0) ∧ W1.cell? ⟨w.heap.size, 1, none⟩ = some (.int .i64 size) ∧ W1.cell? ⟨w.heap.size, 2, none⟩ = some (.int .i64 mo) ∧ W1.cell? ⟨w.heap.size, 3, none⟩ = some (.int .i64 fuel) ∧ W1.cell? ⟨w.heap.size, 4, none⟩ = some (.bool off) ∧ W1.cell? ⟨w.heap.size, 5, none⟩ = some (.int .i64 bad) := ⟨hz0.cell 0, hz0.cell 1, hz0.cell 2, hz0.cell 3, hz0.cell 4, hz0.cell 5⟩
      clear hz0 hz1 bm qm HC
      go_wp2_with fail
      refine (C1.out).mono ?_
      rintro e w1 ⟨v9, rfl, hz7, d1⟩
      clear x0 x1 x2 x3 x4 x5
      obtain ⟨A7, c7, rfl⟩ := hz7.form
      obtain ⟨n7, hn7⟩ : ∃ n, n = zs7.length := ⟨_, rfl⟩
      rw [← hn7] at hz7 ⊢
      have HZ9 := Lib.hid hz7
      clear hz7 hn7
      have b6 := BX21.out.on d1
      have q6 := Q1.out.trans d1
      have HB6 := Lib.hid b6
      have S6 : Hid (w1.heap.size ≤ (((((((w1.setCell ⟨w.heap.size + 1 + 1, 0, none⟩ (.slice A7 n7 c7)).setCell ⟨w.heap.size + 1 + 1, 1, none⟩ (.int .i64 s7)).setCell ⟨w.heap.size + 1 + 1, 2, none⟩ (.int .i64 m7)).setCell ⟨w.heap.size + 1 + 1, 3, none⟩ (.int .i64 f7)).setCell ⟨w.heap.size + 1 + 1, 4, none⟩ (.bool o7)).setCell ⟨w.heap.size + 1 + 1, 5, none⟩ (.int .i64 b7))).heap.size) := Lib.hid (by simp)
      obtain ⟨g0, g1, g2, g3, g4, g5⟩ : w1.cell? ⟨w.heap.size + 1 + 1, 0, none⟩ = some (.slice none 0 0) ∧ w1.cell? ⟨w.heap.size + 1 + 1, 1, none⟩ = some (.int .i64 0) ∧ w1.cell? ⟨w.heap.size + 1 + 1, 2, none⟩ = some (.int .i64 0) ∧ w1.cell? ⟨w.heap.size + 1 + 1, 3, none⟩ = some (.int .i64 0) ∧ w1.cell? ⟨w.heap.size + 1 + 1, 4, none⟩ = some (.bool false) ∧ w1.cell? ⟨w.heap.size + 1 + 1, 5, none⟩ = some (.int .i64 0) := ⟨b6.cell 0, b6.cell 1, b6.cell 2, b6.cell 3, b6.cell 4, b6.cell 5⟩
      have l0 := b6.frozen 0
      have l1 := b6.frozen 1
      have l2 := b6.frozen 2
      have l3 := b6.frozen 3
      have l4 := b6.frozen 4
      have l5 := b6.frozen 5
      have c9 := ((((((b6.set 0 (.slice A7 n7 c7)).set 1 (.int .i64 s7)).set 2 (.int .i64 m7)).set 3 (.int .i64 f7)).set 4 (.bool o7)).set 5 (.int .i64 b7))
      have q9 : Q w ((((((w1.setCell ⟨w.heap.size + 1 + 1, 0, none⟩ (.slice A7 n7 c7)).setCell ⟨w.heap.size + 1 + 1, 1, none⟩ (.int .i64 s7)).setCell ⟨w.heap.size + 1 + 1, 2, none⟩ (.int .i64 m7)).setCell ⟨w.heap.size + 1 + 1, 3, none⟩ (.int .i64 f7)).setCell ⟨w.heap.size + 1 + 1, 4, none⟩ (.bool o7)).setCell ⟨w.heap.size + 1 + 1, 5, none⟩ (.int .i64 b7)) := (Q.set (Q.set (Q.set (Q.set (Q.set (Q.set q6 (by omega) _) (by omega) _) (by omega) _) (by omega) _) (by omega) _) (by omega) _)
      have k9 : ∀ j, j ≠ w.heap.size + 1 + 1 → ((((((w1.setCell ⟨w.heap.size + 1 + 1, 0, none⟩ (.slice A7 n7 c7)).setCell ⟨w.heap.size + 1 + 1, 1, none⟩ (.int .i64 s7)).setCell ⟨w.heap.size + 1 + 1, 2, none⟩ (.int .i64 m7)).setCell ⟨w.heap.size + 1 + 1, 3, none⟩ (.int .i64 f7)).setCell ⟨w.heap.size + 1 + 1, 4, none⟩ (.bool o7)).setCell ⟨w.heap.size + 1 + 1, 5, none⟩ (.int .i64 b7)).heap[j]? = w1.heap[j]? := fun j hne => (heap_set _ _ _ _ hne).trans ( (heap_set _ _ _ _ hne).trans ( (heap_set _ _ _ _ hne).trans ( (heap_set _ _ _ _ hne).trans ( (heap_set _ _ _ _ hne).trans ( heap_set _ _ _ _ hne)))))
      obtain ⟨w9, hw9⟩ : ∃ z, z = ((((((w1.setCell ⟨w.heap.size + 1 + 1, 0, none⟩ (.slice A7 n7 c7)).setCell ⟨w.heap.size + 1 + 1, 1, none⟩ (.int .i64 s7)).setCell ⟨w.heap.size + 1 + 1, 2, none⟩ (.int .i64 m7)).setCell ⟨w.heap.size + 1 + 1, 3, none⟩ (.int .i64 f7)).setCell ⟨w.heap.size + 1 + 1, 4, none⟩ (.bool o7)).setCell ⟨w.heap.size + 1 + 1, 5, none⟩ (.int .i64 b7)) := ⟨_, rfl⟩
      rw [← hw9] at c9 q9 k9 S6
      simp only [List.setIfInBounds_toArray, List.set_cons_zero, List.set_cons_succ] at c9
      have C9 := Lib.hid c9
      have Q9 := Lib.hid q9
      have K9 := Lib.hid k9
      clear c9 q9 k9
      go_wp2_with fail
      rw [← hw9]
      clear hw9
      obtain ⟨k0, k1, k2, k3, k4, k5⟩ : w9.cell? ⟨w.heap.size + 1 + 1, 0, none⟩ = some (.slice A7 n7 c7) ∧ w9.cell? ⟨w.heap.size + 1 + 1, 1, none⟩ = some (.int .i64 s7) ∧ w9.cell? ⟨w.heap.size + 1 + 1, 2, none⟩ = some (.int .i64 m7) ∧ w9.cell? ⟨w.heap.size + 1 + 1, 3, none⟩ = some (.int .i64 f7) ∧ w9.cell? ⟨w.heap.size + 1 + 1, 4, none⟩ = some (.bool o7) ∧ w9.cell? ⟨w.heap.size + 1 + 1, 5, none⟩ = some (.int .i64 b7) := ⟨C9.out.cell 0, C9.out.cell 1, C9.out.cell 2, C9.out.cell 3, C9.out.cell 4, C9.out.cell 5⟩
      (try simp only [Exit.inBlock, Exit.then])
      refine bodyPost_ret (v := .tuple #[.agg #[.slice A7 n7 c7, .int .i64 s7, .int .i64 m7, .int .i64 f7, .bool o7, .int .i64 b7], .int .i64 (e7 : Nat)]) ?_ rfl ?_
      · rw [results_cell_tmp rfl]
        go_simp
      · exact HPO.out _ _ ⟨_, rfl, Zns.off HZ9.out HB6.out K9.out S6.out, Q9.out⟩
    · have HV := Lib.hid (HV1.out (.inr hr))
      obtain ⟨r, hr2⟩ : ∃ r, r = t.size % 64 := ⟨_, rfl⟩
      have ht2 : (t.size : Int).tmod 64 = (r : Int) := by rw [show (64 : Int) = ((64 : Nat) : Int) by rfl, ← Int.ofNat_tmod, hr2]
      have ht3 : ((r : Int) != 0) = true := by simp; omega
      clear hr hr2 h0
      go_enter Try.func23, Try.ntmps23
      go_upto_region 1 with fail
      rw [← hW0]
      clear hW0
      obtain ⟨g0, g1, g2, g3, g4, g5⟩ : W0.cell? ⟨w.heap.size + 1 + 1, 0, none⟩ = some (.slice none 0 0) ∧ W0.cell? ⟨w.heap.size + 1 + 1, 1, none⟩ = some (.int .i64 0) ∧ W0.cell? ⟨w.heap.size + 1 + 1, 2, none⟩ = some (.int .i64 0) ∧ W0.cell? ⟨w.heap.size + 1 + 1, 3, none⟩ = some (.int .i64 0) ∧ W0.cell? ⟨w.heap.size + 1 + 1, 4, none⟩ = some (.bool false) ∧ W0.cell? ⟨w.heap.size + 1 + 1, 5, none⟩ = some (.int .i64 0) := ⟨BX2.out.cell 0, BX2.out.cell 1, BX2.out.cell 2, BX2.out.cell 3, BX2.out.cell 4, BX2.out.cell 5⟩
      have l0 := BX2.out.frozen 0
      have l1 := BX2.out.frozen 1
      have l2 := BX2.out.frozen 2
      have l3 := BX2.out.frozen 3
      have l4 := BX2.out.frozen 4
      have l5 := BX2.out.frozen 5
      have c9 := ((((((BX2.out.set 0 (.slice none 0 0)).set 1 (.int .i64 0)).set 2 (.int .i64 0)).set 3 (.int .i64 0)).set 4 (.bool false)).set 5 (.int .i64 0))
      have q9 : Q w ((((((W0.setCell ⟨w.heap.size + 1 + 1, 0, none⟩ (.slice none 0 0)).setCell ⟨w.heap.size + 1 + 1, 1, none⟩ (.int .i64 0)).setCell ⟨w.heap.size + 1 + 1, 2, none⟩ (.int .i64 0)).setCell ⟨w.heap.size + 1 + 1, 3, none⟩ (.int .i64 0)).setCell ⟨w.heap.size + 1 + 1, 4, none⟩ (.bool false)).setCell ⟨w.heap.size + 1 + 1, 5, none⟩ (.int .i64 0)) := (Q.set (Q.set (Q.set (Q.set (Q.set (Q.set Q0.out (by omega) _) (by omega) _) (by omega) _) (by omega) _) (by omega) _) (by omega) _)
      have k9 : ∀ j, j ≠ w.heap.size + 1 + 1 → ((((((W0.setCell ⟨w.heap.size + 1 + 1, 0, none⟩ (.slice none 0 0)).setCell ⟨w.heap.size + 1 + 1, 1, none⟩ (.int .i64 0)).setCell ⟨w.heap.size + 1 + 1, 2, none⟩ (.int .i64 0)).setCell ⟨w.heap.size + 1 + 1, 3, none⟩ (.int .i64 0)).setCell ⟨w.heap.size + 1 + 1, 4, none⟩ (.bool false)).setCell ⟨w.heap.size + 1 + 1, 5, none⟩ (.int .i64 0)).heap[j]? = W0.heap[j]? := fun j hne => (heap_set _ _ _ _ hne).trans ( (heap_set _ _ _ _ hne).trans ( (heap_set _ _ _ _ hne).trans ( (heap_set _ _ _ _ hne).trans ( (heap_set _ _ _ _ hne).trans ( heap_set _ _ _ _ hne)))))
      obtain ⟨w9, hw9⟩ : ∃ z, z = ((((((W0.setCell ⟨w.heap.size + 1 + 1, 0, none⟩ (.slice none 0 0)).setCell ⟨w.heap.size + 1 + 1, 1, none⟩ (.int .i64 0)).setCell ⟨w.heap.size + 1 + 1, 2, none⟩ (.int .i64 0)).setCell ⟨w.heap.size + 1 + 1, 3, none⟩ (.int .i64 0)).setCell ⟨w.heap.size + 1 + 1, 4, none⟩ (.bool false)).setCell ⟨w.heap.size + 1 + 1, 5, none⟩ (.int .i64 0)) := ⟨_, rfl⟩
      rw [← hw9] at c9 q9 k9
      simp only [List.setIfInBounds_toArray, List.set_cons_zero, List.set_cons_succ] at c9
      have C9 := Lib.hid c9
      have Q9 := Lib.hid q9
      have K9 := Lib.hid k9
      clear c9 q9 k9
      go_wp2_with fail
      rw [← hw9]
      clear hw9
      obtain ⟨k0, k1, k2, k3, k4, k5⟩ : w9.cell? ⟨w.heap.size + 1 + 1, 0, none⟩ = some (.slice none 0 0) ∧ w9.cell? ⟨w.heap.size + 1 + 1, 1, none⟩ = some (.int .i64 0) ∧ w9.cell? ⟨w.heap.size + 1 + 1, 2, none⟩ = some (.int .i64 0) ∧ w9.cell? ⟨w.heap.size + 1 + 1, 3, none⟩ = some (.int .i64 0) ∧ w9.cell? ⟨w.heap.size + 1 + 1, 4, none⟩ = some (.bool false) ∧ w9.cell? ⟨w.heap.size + 1 + 1, 5, none⟩ = some (.int .i64 0) := ⟨C9.out.cell 0, C9.out.cell 1, C9.out.cell 2, C9.out.cell 3, C9.out.cell 4, C9.out.cell 5⟩
      (try simp only [Exit.inBlock, Exit.then])
      (try simp only [Exit.inBlock, Exit.then])
      refine bodyPost_ret (v := .tuple #[.agg #[.slice none 0 0, .int .i64 0, .int .i64 0, .int .i64 0, .bool false, .int .i64 0], .int .i64 1]) ?_ rfl ?_
      · rw [results_cell_tmp rfl]
        go_simp
      · exact HP1.out () _ HV.out Q9.out
end Go.Proofs.Yteoondmakdghhaa

namespace Go.Proofs.Yteoondmakdghhaa
set_option maxRecDepth 100000
open Go.ChangeShapes Go.WideShapes Go.ChangeAt Go.RowKit
set_option linter.unusedVariables false
set_option linter.unusedSimpArgs false
set_option maxRecDepth 100000
theorem info_u8 : (Try.prog.info? 5).map (fun i => (i.zero, i.size, i.bytes)) = some (some (.int .u8 0), 1, 1) := by kernel_rfl
theorem byte_append (a b : List UInt8) : Lib.byteCells (a ++ b) = Lib.byteCells a ++ Lib.byteCells b := by simp [Lib.byteCells]
/-- So far l's octets, and noughts. -/
def soFar (l : List UInt8) (j : Nat) : List Value := Lib.byteCells (l.take j) ++ List.replicate (l.length - j) (.int .u8 0)
theorem soFar_zero (l : List UInt8) : soFar l 0 = List.replicate l.length (.int .u8 0) := rfl
theorem soFar_end (l : List UInt8) : soFar l l.length = Lib.byteCells l := by rw [soFar, List.take_length, Nat.sub_self]; simp
theorem cells_take (l : List UInt8) (j : Nat) (h : j ≤ l.length) : (Lib.byteCells (l.take j)).length = j := by
  rw [Lib.byteCells_length, List.length_take]; omega
theorem soFar_at (l : List UInt8) (j : Nat) (h : j < l.length) : (soFar l j)[j]? = some (.int .u8 0) := by
  have hb := cells_take l j (Nat.le_of_lt h)
  rw [soFar, List.getElem?_append_right (by omega), hb, Nat.sub_self, show l.length - j = (l.length - (j + 1)) + 1 by omega, List.replicate_succ]
  rfl
theorem soFar_set (l : List UInt8) (j : Nat) (h : j < l.length) : (soFar l j).set j (.int .u8 (l[j].toNat : Nat)) = soFar l (j + 1) := by
  have hb := cells_take l j (Nat.le_of_lt h)
  rw [soFar, soFar, List.set_append_right _ _ (by omega), hb, Nat.sub_self, show l.length - j = (l.length - (j + 1)) + 1 by omega, List.replicate_succ, List.set_cons_zero, List.take_succ_eq_append_getElem h, byte_append, List.append_assoc]
  rfl
theorem conv_row {base g cap : Nat} {w : World} {l : List UInt8} (h : w.ownsRow base 5 1 (.slice (some ⟨g, 0, none⟩) l.length cap) l.length (Lib.byteCells l)) :
    (convert 65 9 (.slice (some ⟨g, 0, none⟩) l.length cap)).run Try.prog w = .ok (.string (mk l)) w :=
  run_convert_bytes_back (P := Try.prog) w 65 9 5 ⟨g, 0, none⟩ cap l Try.underlying65 Try.underlying5 Try.underlying9 (fun j hj => World.ownsRow.cells (g := g) h rfl j _ (by simp [Lib.byteCells, hj]))
set_option maxHeartbeats 4000000 in
theorem all_any (c n : Nat) (w : World) (hc : c < 256) (h0 : 0 < n) (hn : n ≤ 100) :
    Calls Try.prog 24 #[.int .u8 c, .int .i64 n] w fun e w' => e = .returned (.string (octsB c n)) ∧ Q w w' := by
  obtain ⟨i0, hi, hz0, hz1, hz2⟩ := info_parts info_u8
  obtain ⟨l, hll⟩ : ∃ l, l = List.replicate (64 * n) c.toUInt8 := ⟨_, rfl⟩
  have HOB : Hid (octsB c n = mk l) := Lib.hid (by rw [hll]; rfl)
  have hg0 : ∀ j (h : j < l.length), l[j].toNat = c := fun j h => by
    subst hll
    rw [List.getElem_replicate]
    simp; omega
  obtain ⟨N, hN⟩ : ∃ N, N = 64 * n := ⟨_, rfl⟩
  have hl : l.length = N := by rw [hll, List.length_replicate, hN]
  have hNi : (64 : Int) * (n : Int) = (N : Int) := by omega
  have hN1 : N ≤ 6400 := by omega
  have hN0 : 0 < N := by omega
  have HG := Lib.hid hg0
  clear hll hg0 hN
  go_enter Try.func24, Try.ntmps24
  go_wp2_with (at_make; refine wpList_make_full _ rfl _ _ 65 rfl w.heap.size 5 i0 (.int .u8 0) 1 Try.underlying65 hi hz0 hz1 .i64 .i64 _ _ N rfl rfl rfl rfl (by rw [hz2]; omega) (by unfold maxLen; omega) (Nat.le_refl _) ?_; intro w4 o4 g4; refine Hid.out ?_)
  refine Lib.hid ?_
  have b4 : Below w.heap.size w w4 := (Below.refl _ w).grown g4 (Nat.le_refl _) (by simp)
  rw [Nat.mul_one] at o4
  rw [show (Value.int IntKind.u8 0).cells = #[Value.int IntKind.u8 0] by rfl, toList_madeCells_one] at o4
  have O := Lib.hid o4
  clear o4 g4
  go_wp2_with fail
  go_loopw [6] (fun I wr => ∃ j : Nat, j ≤ N ∧ I = .int .i64 j ∧ Hid (wr.ownsRow w.heap.size 5 1 (.slice (some ⟨w.heap.size, 0, none⟩) N N) N (soFar l j)) ∧ Below w.heap.size w wr) (fun I _ => N - (intOf I).toNat)
  case atStart => exact ⟨0, Nat.zero_le _, rfl, Lib.hid (by rw [soFar_zero, hl]; exact O.out), b4⟩
  case round =>
    obtain ⟨j, hj, rfl, HO, bel⟩ := hrel
    clear O b4
    by_cases hlt : j < N
    · have hjl : j < l.length := by rw [hl]; exact hlt
      have hg := HG.out j hjl
      have c1 : wr.cell? ⟨w.heap.size, j, none⟩ = some (.int .u8 0) := by
        rw [HO.out.cellAt j (by omega)]; exact soFar_at l j hjl
      have f1 := HO.out.frozenAt j
      have S := HO.out.stored j (.int .u8 (l[j].toNat : Nat))
      rw [soFar_set l j hjl, hg] at S
      have S1 := Lib.hid S.1
      have bel2 := Below.setCell bel (p := ⟨w.heap.size, j, none⟩) (Nat.le_refl _) (.int .u8 (c : Nat))
      have hjlt : (j : Int) < (N : Int) := by omega
      clear S hg hjl
      go_wp2_with fail
      go_roundw
      case rel => exact ⟨j + 1, by omega, by go_num, S1, bel2⟩
      case measure => simp [intOf]; omega
    · obtain rfl : j = N := by omega
      have hcv := conv_row (base := w.heap.size) (g := w.heap.size) (cap := j) (w := wr) (l := l) (by rw [← soFar_end, hl]; exact HO.out)
      rw [hl] at hcv
      go_wp2_with fail
      go_ret
      exact ⟨by rw [HOB.out]; rfl, bel⟩
end Go.Proofs.Yteoondmakdghhaa

namespace Go.Proofs.Yteoondmakdghhaa
set_option maxRecDepth 100000
open Go.ChangeShapes Go.WideShapes Go.ChangeAt Go.RowKit
set_option linter.unusedVariables false
set_option linter.unusedSimpArgs false
set_option maxRecDepth 100000
def acV (a : Ac) : Value := .agg #[.int .u8 (a.kind : Nat), .int .u8 (a.zone : Nat), .int .u8 (a.many : Nat), .int .u8 (a.c : Nat)]
def okA (a : Ac) : Prop := a.kind < 256 ∧ a.zone < 256 ∧ a.many < 256 ∧ a.c < 256
theorem sm_of {d : Dv} (h : d.zs.length ≤ 41 ∧ ∀ z ∈ d.zs, z.b.length ≤ 301) : smD d := ⟨Nat.le_trans h.1 (by decide), fun z hz => Nat.le_trans (h.2 z hz) (by decide)⟩
end Go.Proofs.Yteoondmakdghhaa

namespace Go.Proofs.Yteoondmakdghhaa
set_option maxRecDepth 100000
open Go.ChangeShapes Go.WideShapes Go.ChangeAt Go.RowKit
set_option linter.unusedVariables false
set_option linter.unusedSimpArgs false
set_option maxRecDepth 100000
/-- A slice of acts. -/
def Acs (w : World) (B : Nat) (v : Value) (l : List Ac) : Prop :=
  ∃ A c, v = .slice A l.length c ∧ (∀ x ∈ l, okA x) ∧ ∀ k (h : k < l.length), ∃ a : Addr, A = some a ∧ a.block < B ∧ w.cell? (a.add (k * 4)) = some (.int .u8 (l[k].kind : Nat)) ∧ w.cell? ⟨(a.add (k * 4)).block, (a.add (k * 4)).off + 1, none⟩ = some (.int .u8 (l[k].zone : Nat)) ∧ w.cell? ⟨(a.add (k * 4)).block, (a.add (k * 4)).off + 2, none⟩ = some (.int .u8 (l[k].many : Nat)) ∧ w.cell? ⟨(a.add (k * 4)).block, (a.add (k * 4)).off + 3, none⟩ = some (.int .u8 (l[k].c : Nat))
theorem Acs.pick {w : World} {v : Value} {l : List Ac} (h : Acs w w.heap.size v l) (i : Nat) (hi : i < l.length) :
    ∃ (a : Addr) (c : Nat), v = .slice (some a) l.length c ∧ okA l[i] ∧ ∀ d, Q w d → d.cell? (a.add (i * 4)) = some (.int .u8 (l[i].kind : Nat)) ∧ d.cell? ⟨(a.add (i * 4)).block, (a.add (i * 4)).off + 1, none⟩ = some (.int .u8 (l[i].zone : Nat)) ∧ d.cell? ⟨(a.add (i * 4)).block, (a.add (i * 4)).off + 2, none⟩ = some (.int .u8 (l[i].many : Nat)) ∧ d.cell? ⟨(a.add (i * 4)).block, (a.add (i * 4)).off + 3, none⟩ = some (.int .u8 (l[i].c : Nat)) := by
  obtain ⟨A, c, rfl, eo, f⟩ := h
  obtain ⟨a, rfl, ha, h0, h1, h2, h3⟩ := f i hi
  have hb : (a.add (i * 4)).block < w.heap.size := by rw [add_block]; exact ha
  exact ⟨a, c, rfl, eo _ (List.getElem_mem hi), fun d q => ⟨(q.cell hb).trans h0, (q.cell (p := ⟨(a.add (i * 4)).block, (a.add (i * 4)).off + 1, none⟩) hb).trans h1, (q.cell (p := ⟨(a.add (i * 4)).block, (a.add (i * 4)).off + 2, none⟩) hb).trans h2, (q.cell (p := ⟨(a.add (i * 4)).block, (a.add (i * 4)).off + 3, none⟩) hb).trans h3⟩⟩
end Go.Proofs.Yteoondmakdghhaa

