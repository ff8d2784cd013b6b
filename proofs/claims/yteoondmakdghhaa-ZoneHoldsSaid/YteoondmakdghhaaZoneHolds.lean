/-
  Proved: whatever acts and loss ZoneHolds is called with, it returns true and leaves what it was given as it was. No condition.
-/
import Derived.Test.YteoondmakdghhaaNn
namespace Go.Proofs.Yteoondmakdghhaa.zoneHolds
set_option maxRecDepth 100000
open Go.ChangeShapes Go.WideShapes Go.ChangeAt Go.RowKit
open Go.ChangeMaps (open_string shut_string)
set_option linter.unusedVariables false
set_option linter.unusedSimpArgs false

section
variable {P : Program} {ops : Array Oper} {Z : Exit → Act → World → Prop} {md : Region.Mode} {F : World → Prop} {st : Nat}
theorem tillPure1 {i : Nat} {o : Oper} {v : Value} (hi : ops[i]? = some o) (hsel : ∀ (j : Nat) (x : Oper) cs b, ops[j]? = some x → x.op ≠ .select cs b) (his : i ≠ st)
    (hZ : ∀ c a w, Z (.panic c) (a.put o.dst v) w → Z (.panic c) a w) : ∀ (k : Nat) (up : Array Bool) (a : Act) (w : World),
      (∀ j x, ops[j]? = some x → j ≠ i → up.getD j true = false → (∀ e ∈ x.after, Region.binds md e = true → e.on ≠ i) → o.apart ops x = true) →
      i ∈ Region.ready md ops up → YieldsIf P ops (fun _ => True) o v a → (up.getD st true = false → F w) → Till P md ops Z F st k (up.setIfInBounds i true) (a.put o.dst v) w → Till P md ops Z F st (k + 1) up a w := by
  have notYet : ∀ up : Array Bool, i ∈ Region.ready md ops up → ∀ j ∈ Region.ready md ops up, j ≠ i → ∀ x, ops[j]? = some x → ∀ e ∈ x.after, Region.binds md e = true → e.on ≠ i := by
    intro up hr j hj hne x hx e he hb heq
    obtain ⟨h0, -⟩ := mem_ready.1 hr
    obtain ⟨-, y, hy, hall⟩ := mem_ready.1 hj
    rw [hx] at hy
    cases hy
    have h1 := hall e he hb
    rw [heq] at h1
    by_cases hs : i < up.size
    · simp [hs] at h0 h1; rw [h0] at h1; cases h1
    · simp [Array.getElem?_eq_none (Nat.le_of_not_lt hs)] at h1
  intro k
  induction k with
  | zero =>
    intro up a w hfree hr hy hF H
    refine ⟨fun e => (by rw [e] at hr; cases hr), fun j hj => ?_⟩
    by_cases hji : j = i
    · subst hji; exact hy.wpOp hi trivial ⟨fun e => hF (by rwa [getD_set_ne true his] at e), H⟩
    · have := ready_mono hj hji
      rw [H.1] at this; cases this
  | succ k ih =>
    intro up a w hfree hr hy hF H
    refine ⟨fun e => (by rw [e] at hr; cases hr), fun j hj => ?_⟩
    by_cases hji : j = i
    · subst hji; exact hy.wpOp hi trivial ⟨fun e => hF (by rwa [getD_set_ne true his] at e), H⟩
    · obtain ⟨hjun, x, hx, -⟩ := mem_ready.1 hj
      have step := wpOp_putIf hx (hfree j x hx hji hjun (notYet up hr j hj hji x hx)) (fun cs b => hsel i o cs b hi) (fun cs b => hsel j x cs b hx) hZ hy (H.2 j (ready_mono hj hji))
      have hfree' : ∀ m y, ops[m]? = some y → m ≠ i → (up.setIfInBounds j true).getD m true = false → (∀ e ∈ y.after, Region.binds md e = true → e.on ≠ i) → o.apart ops y = true := by
        intro m y hy2 hmi hun hno
        refine hfree m y hy2 hmi ?_ hno
        by_cases hjm : j = m
        · subst hjm; exact hjun
        · rwa [getD_set_ne true hjm] at hun
      refine wpOp_mono (fun b x' g => ?_) step
      obtain ⟨g1, g2, g3⟩ := g
      have hFx : (up.setIfInBounds j true).getD st true = false → F x' := fun e => g2 (by
        rw [Array.setIfInBounds_comm _ _ (Ne.symm hji), getD_set_ne true his]; exact e)
      refine ⟨hFx, ih (up.setIfInBounds j true) b x' hfree' (ready_mono hr (Ne.symm hji)) g1 hFx ?_⟩
      rw [Array.setIfInBounds_comm _ _ hji]
      exact g3
theorem tillPureZ {i : Nat} {o : Oper} {v : Value} {k : Nat} {up : Array Bool} {a : Act} {w : World} (hi : ops[i]? = some o) (hs : Region.noSelect ops = true) (hf : Region.free md ops up i = true) (hr : (Region.ready md ops up).contains i = true)
    (his : i ≠ st) (hZ : ∀ c a w, Z (.panic c) (a.put o.dst v) w → Z (.panic c) a w) (hy : YieldsIf P ops (fun _ => True) o v a) (hF : up.getD st true = false → F w)
    (h : Till P md ops Z F st k (up.setIfInBounds i true) (a.put o.dst v) w) : Till P md ops Z F st (k + 1) up a w :=
  tillPure1 hi (Region.noSelect_spec hs) his hZ k up a w (Region.free_spec hi hf) (by simpa using hr) hy hF h
end
theorem hd_new : newD 4 6 4 = (⟨[noZn, noZn, noZn, noZn], 6, 4, -1, false, 0⟩, 0) := rfl
theorem hd_may : mayD ⟨[noZn, noZn, noZn, noZn], 6, 4, -1, false, 0⟩ = true := by decide
/-- A device that never fails. -/
def Fre (d : Dv) (m : Nat) : Prop := mayD d = true ∧ d.fuel = -1 ∧ d.off = false ∧ d.bad ≤ (m : Int) ∧ d.zs.length = 4
theorem fre_act {d : Dv} {m : Nat} (h : Fre d m) (hm : m ≤ 1000) (a : Ac) : Fre (actD d a).1 (m + 1) := by
  obtain ⟨h1, h2, h3, h4, h5⟩ := h
  have f := act_free h2 h3 h1 a
  have c := act_c h1 a
  generalize actD d a = r at f c ⊢
  cases c with
  | no e he =>
    refine ⟨ref_may h1, f.2.1, f.2.2, ?_, h5⟩
    show (if d.bad = 9223372036854775807 then 0 else d.bad + 1) ≤ ((m + 1 : Nat) : Int)
    split <;> omega
  | yes x e he may len mo sz bad => exact ⟨may, f.2.1, f.2.2, by simp only; omega, by simp only; omega⟩
theorem fre_okN {d : Dv} {m : Nat} (h : Fre d m) (hm : m ≤ 1000) : okN d := by
  obtain ⟨h1, h2, h3, h4, h5⟩ := h
  have h7 := (mayD_iff.1 h1).2.2.2.2.2.2.1
  exact ⟨⟨by omega, by omega⟩, ⟨by omega, by omega⟩⟩
theorem toQ9 {a b w' : World} (h : Q a b) (k : ∃ n, w' = b.drewN n) : Q a w' := by
  obtain ⟨n, rfl⟩ := k
  exact below_drewN h n
theorem fre_mono {d : Dv} {m n : Nat} (h : Fre d m) (k : m ≤ n) : Fre d n := ⟨h.1, h.2.1, h.2.2.1, by have := h.2.2.2.1; omega, h.2.2.2.2⟩
def fluX (d : Dv) : Dv := { d with zs := d.zs.map firmZ }
theorem fre_flu {d : Dv} {m : Nat} (h : Fre d m) : fluD d = (fluX d, 0) ∧ Fre (fluX d) m ∧ ∀ i (hi : i < (fluX d).zs.length), (fluX d).zs[i].firm = ((fluX d).zs[i].b.length : Nat) := by
  obtain ⟨h1, h2, h3, h4, h5⟩ := h
  refine ⟨?_, ⟨firm_may h1, h2, h3, h4, by simp [fluX, h5]⟩, fun i hi => by simp [fluX, firmZ]⟩
  unfold fluD
  rw [if_neg (by rw [h1]; simp), burn_free h2 h3]
  rfl
set_option maxHeartbeats 16000000 in
set_option maxRecDepth 100000 in
theorem walk (ll : List Ac) (v : Value) (lb : List Ac) (v2 : Value) (o : Ls) (KV : Value) (w : World) (ht : Acs w w.heap.size v ll) (hl : ll.length ≤ maxLen) (ht2 : Acs w w.heap.size v2 lb) (hl2 : lb.length ≤ maxLen) (hk : Ints w w.heap.size KV o.keep) (ho : okL o) : Calls Try.prog 5 #[v, v2, lsV o KV] w fun e w' => e = .returned (.bool true) ∧ Q w w' := by
  have hta := ht
  obtain ⟨AL, cL, rfl, -⟩ := hta
  have htb := ht2
  obtain ⟨AM, cM, rfl, -⟩ := htb
  have HTL : Hid (∀ i (hi : i < ll.length), ∃ (a : Addr) (c : Nat), Value.slice AL ll.length cL = .slice (some a) ll.length c ∧ okA ll[i] ∧ ∀ d, Q w d → d.cell? (a.add (i * 4)) = some (.int .u8 (ll[i].kind : Nat)) ∧ d.cell? ⟨(a.add (i * 4)).block, (a.add (i * 4)).off + 1, none⟩ = some (.int .u8 (ll[i].zone : Nat)) ∧ d.cell? ⟨(a.add (i * 4)).block, (a.add (i * 4)).off + 2, none⟩ = some (.int .u8 (ll[i].many : Nat)) ∧ d.cell? ⟨(a.add (i * 4)).block, (a.add (i * 4)).off + 3, none⟩ = some (.int .u8 (ll[i].c : Nat))) := Lib.hid (fun i hi => ht.pick i hi)
  have HTM : Hid (∀ i (hi : i < lb.length), ∃ (a : Addr) (c : Nat), Value.slice AM lb.length cM = .slice (some a) lb.length c ∧ okA lb[i] ∧ ∀ d, Q w d → d.cell? (a.add (i * 4)) = some (.int .u8 (lb[i].kind : Nat)) ∧ d.cell? ⟨(a.add (i * 4)).block, (a.add (i * 4)).off + 1, none⟩ = some (.int .u8 (lb[i].zone : Nat)) ∧ d.cell? ⟨(a.add (i * 4)).block, (a.add (i * 4)).off + 2, none⟩ = some (.int .u8 (lb[i].many : Nat)) ∧ d.cell? ⟨(a.add (i * 4)).block, (a.add (i * 4)).off + 3, none⟩ = some (.int .u8 (lb[i].c : Nat))) := Lib.hid (fun i hi => ht2.pick i hi)
  have CN := Lib.hid (fun y => dev_c (d := ⟨[noZn, noZn, noZn, noZn], 6, 4, -1, false, 0⟩) (k := 0) (ki := 0) (n := 4) (newZ_any 4 6 4 y) hd_new rfl rfl)
  simp only [dvV] at CN
  obtain ⟨d0, hd0⟩ : ∃ d : Dv, d = ⟨[noZn, noZn, noZn, noZn], 6, 4, -1, false, 0⟩ := ⟨_, rfl⟩
  have HD0 : Hid (Fre d0 0 ∧ d0.fuel = -1 ∧ d0.off = false ∧ d0.bad = 0 ∧ d0.zs = [noZn, noZn, noZn, noZn] ∧ d0.size = 6 ∧ d0.mo = 4) := Lib.hid (by rw [hd0]; exact ⟨⟨hd_may, rfl, rfl, by decide, rfl⟩, rfl, rfl, rfl, rfl, rfl, rfl⟩)
  obtain ⟨z4, hz4⟩ : ∃ z, z = [noZn, noZn, noZn, noZn] := ⟨_, rfl⟩
  rw [← hz4] at CN HD0
  have HZ4 : Hid (z4.length = 4) := Lib.hid (by rw [hz4]; rfl)
  have CC := Lib.hid (fun (d : Dv) (u : Value) (y : World) (hd : smD d) (h : Zns y y.heap.size u d.zs) (q : Q w y) => crashZ_any d u o KV y hd h (hk.on q))
  obtain ⟨AK, cK, rfl⟩ := hk.form
  obtain ⟨nk, hnk⟩ : ∃ n, n = o.keep.length := ⟨_, rfl⟩
  rw [← hnk] at CC ⊢
  obtain ⟨zo, hzo⟩ : ∃ z, z = o.zone := ⟨_, rfl⟩
  obtain ⟨cu, hcu⟩ : ∃ z, z = o.cut := ⟨_, rfl⟩
  rw [lsV, ← hzo, ← hcu]
  rw [← hzo, ← hcu] at CC
  have HZO := Lib.hid hzo
  clear hd0 hz4 ht ht2 hk ho hnk hzo hcu
  have bl := Bx.new w 27 #[.slice AK nk cK, .int .i64 zo, .int .i64 cu]
  have ql := (Q.refl w).alloc (.cells #[.slice AK nk cK, .int .i64 zo, .int .i64 cu] 27)
  obtain ⟨W0, hW0⟩ : ∃ z, z = w.alloc (.cells #[.slice AK nk cK, .int .i64 zo, .int .i64 cu] 27) := ⟨_, rfl⟩
  rw [← hW0] at bl ql
  have BL := Lib.hid bl
  have QL := Lib.hid ql
  clear bl ql
  go_enter Try.func5, Try.ntmps5
  go_upto_region 1 with fail
  rw [← hW0]
  clear hW0
  go_wp2_with fail
  refine (CN.out _).mono ?_
  rintro e w1 ⟨A0, c0, rfl, hz1, d1⟩
  have bn := Bx.new w1 24 #[.slice A0 4 c0, .int .i64 6, .int .i64 4, .int .i64 (-1), .bool false, .int .i64 0]
  have qn := (Q.refl w1).alloc (.cells #[.slice A0 4 c0, .int .i64 6, .int .i64 4, .int .i64 (-1), .bool false, .int .i64 0] 24)
  have hzn := hz1.on qn
  have hqn := d1.trans qn
  obtain ⟨p5, hp5⟩ : ∃ p, p = w1.heap.size := ⟨_, rfl⟩
  have hp5' : W0.heap.size ≤ p5 := by rw [hp5]; exact d1.size
  obtain ⟨W2, hW2⟩ : ∃ z, z = w1.alloc (.cells #[.slice A0 4 c0, .int .i64 6, .int .i64 4, .int .i64 (-1), .bool false, .int .i64 0] 24) := ⟨_, rfl⟩
  rw [← hp5, ← hW2] at bn
  rw [← hW2] at hzn hqn
  go_upto_region 2 with fail
  rw [← hp5, ← hW2]
  clear hp5 hW2 hz1 d1 qn
  have QN := Lib.hid (QL.out.trans hqn)
  have BL2 := Lib.hid (BL.out.on hqn)
  have BN := Lib.hid bn
  have HP : Hid (w.heap.size ≤ p5) := Lib.hid (Nat.le_trans QL.out.size hp5')
  have HPL : Hid (w.heap.size < p5) := Lib.hid (Nat.lt_of_lt_of_le BL.out.lt hp5')
  have HDB : Hid (∃ A c n5, n5 = d0.zs.length ∧ Bx W2 p5 24 #[.slice A n5 c, .int .i64 d0.size, .int .i64 d0.mo, .int .i64 d0.fuel, .bool d0.off, .int .i64 d0.bad] ∧ Zns W2 W2.heap.size (.slice A n5 c) d0.zs) := Lib.hid (by
    obtain ⟨h1, h2, h3, h4, h5, h6, h7⟩ := HD0.out
    refine ⟨A0, c0, 4, by rw [h5, HZ4.out], ?_, by rw [h5]; exact hzn⟩
    rw [h2, h3, h4, h6, h7]
    exact BN.out)
  clear hzn hqn bn CN hp5'
  have AW := Lib.hid (fun y => awake13_any y)
  have hll : ll.length ≤ maxLen := hl
  have hll2 : lb.length ≤ maxLen := hl2
  unfold maxLen at hl hll hl2 hll2
  go_wp2_with fail
  go_loopw [9] (fun I wr => ∃ (i : Nat) (d : Dv), i ≤ ll.length ∧ i ≤ 30 ∧ I = .int .i64 i ∧ Hid (Fre d i) ∧ Hid (∃ A c n5, n5 = d.zs.length ∧ Bx wr p5 24 #[.slice A n5 c, .int .i64 d.size, .int .i64 d.mo, .int .i64 d.fuel, .bool d.off, .int .i64 d.bad] ∧ Zns wr wr.heap.size (.slice A n5 c) d.zs) ∧ Hid (Q w wr) ∧ Hid (Bx wr w.heap.size 27 #[.slice AK nk cK, .int .i64 zo, .int .i64 cu])) (fun I _ => ll.length - (intOf I).toNat)
  case atStart => exact ⟨0, d0, Nat.zero_le _, Nat.zero_le _, rfl, Lib.hid HD0.out.1, HDB, QN, BL2⟩
  case round =>
    obtain ⟨i, d, hil, hi30, rfl, HM, HB, HQ, HLB⟩ := hrel
    obtain ⟨W3, hW3⟩ : ∃ z, z = wr := ⟨_, rfl⟩
    subst hW3
    by_cases hlt : i < ll.length ∧ i < 30
    · obtain ⟨hlt1, hlt2⟩ := hlt
      have hil1 : (i : Int) < (ll.length : Int) := by omega
      have hil2 : (i : Int) < 30 := by omega
      obtain ⟨a, cA, eA, hokA, hat⟩ := HTL.out i hlt1
      injection eA with eA1 eA2 eA3
      subst eA1
      have HAT := Lib.hid hat
      have HFX := Lib.hid (fre_act HM.out (by omega) ll[i])
      have HGR : Hid (actD d ll[i] = actD d ll[i]) := Lib.hid rfl
      have hdo := Lib.hid (fun (y : World) (u : Value) (h : Zns y y.heap.size u d.zs) => do_any d u ll[i] y (may_sm HM.out.1) (fre_okN HM.out (by omega)) hokA h)
      obtain ⟨⟨kind, zone, many, c⟩, hy⟩ : ∃ y, y = ll[i] := ⟨_, rfl⟩
      rw [← hy] at HAT HFX hdo HGR
      clear hat hokA hy eA2 eA3
      obtain ⟨r, hr⟩ : ∃ r, r = actD d ⟨kind, zone, many, c⟩ := ⟨_, rfl⟩
      rw [← hr] at HFX hdo HGR
      clear hr
      obtain ⟨A5, c5, n5, hn5, b5, z5⟩ := HB.out
      obtain ⟨⟨x, e9⟩, hxe⟩ : ∃ q : Dv × Nat, q = r := ⟨_, rfl⟩
      subst hxe
      obtain ⟨n9, hn9⟩ : ∃ n, n = x.zs.length := ⟨_, rfl⟩
      have HN9 := Lib.hid hn9
      have CD := Lib.hid (fun (y : World) (q : Q W3 y) => dev_c (d := x) (k := e9) (ki := (e9 : Int)) (n := n9) (hdo.out y _ (z5.on q)) rfl rfl hn9)
      unfold dvV acV at CD
      simp only at CD
      have B5 := Lib.hid b5
      have Z5 := Lib.hid z5
      have Qw := Lib.hid HQ.out
      have KF : Hid (∀ y, Q W3 y → (fun (W : World) => W.cell? ⟨p5, 0, none⟩ = some (.slice A5 n5 c5) ∧ W.cell? ⟨p5, 1, none⟩ = some (.int .i64 d.size) ∧ W.cell? ⟨p5, 2, none⟩ = some (.int .i64 d.mo) ∧ W.cell? ⟨p5, 3, none⟩ = some (.int .i64 d.fuel) ∧ W.cell? ⟨p5, 4, none⟩ = some (.bool d.off) ∧ W.cell? ⟨p5, 5, none⟩ = some (.int .i64 d.bad) ∧ W.cell? (a.add (i * 4)) = some (.int .u8 (kind : Nat)) ∧ W.cell? ⟨(a.add (i * 4)).block, (a.add (i * 4)).off + 1, none⟩ = some (.int .u8 (zone : Nat)) ∧ W.cell? ⟨(a.add (i * 4)).block, (a.add (i * 4)).off + 2, none⟩ = some (.int .u8 (many : Nat)) ∧ W.cell? ⟨(a.add (i * 4)).block, (a.add (i * 4)).off + 3, none⟩ = some (.int .u8 (c : Nat))) y) := Lib.hid (fun y q => ⟨(B5.out.on q).cell 0, (B5.out.on q).cell 1, (B5.out.on q).cell 2, (B5.out.on q).cell 3, (B5.out.on q).cell 4, (B5.out.on q).cell 5, (HAT.out y (HQ.out.trans q)).1, (HAT.out y (HQ.out.trans q)).2.1, (HAT.out y (HQ.out.trans q)).2.2.1, (HAT.out y (HQ.out.trans q)).2.2.2⟩)
      clear hn9 hn5 b5 z5 hdo
      go_upto_region 7 with fail
      refine till_begin (F := (fun (W : World) => W.cell? ⟨p5, 0, none⟩ = some (.slice A5 n5 c5) ∧ W.cell? ⟨p5, 1, none⟩ = some (.int .i64 d.size) ∧ W.cell? ⟨p5, 2, none⟩ = some (.int .i64 d.mo) ∧ W.cell? ⟨p5, 3, none⟩ = some (.int .i64 d.fuel) ∧ W.cell? ⟨p5, 4, none⟩ = some (.bool d.off) ∧ W.cell? ⟨p5, 5, none⟩ = some (.int .i64 d.bad) ∧ W.cell? (a.add (i * 4)) = some (.int .u8 (kind : Nat)) ∧ W.cell? ⟨(a.add (i * 4)).block, (a.add (i * 4)).off + 1, none⟩ = some (.int .u8 (zone : Nat)) ∧ W.cell? ⟨(a.add (i * 4)).block, (a.add (i * 4)).off + 2, none⟩ = some (.int .u8 (many : Nat)) ∧ W.cell? ⟨(a.add (i * 4)).block, (a.add (i * 4)).off + 3, none⟩ = some (.int .u8 (c : Nat)))) (st := 9) (by kernel_rfl) (KF.out _ ((Q.refl W3).drew)) (fun hTill => ?_)
      refine till_take (i := 0) (o := _) (v := ?_) rfl (by kernel_rfl) (by kernel_rfl) (by kernel_rfl) (by kernel_rfl) (by rfl) (fun _ _ _ h => h) (Or.inl ⟨by rfl, ?_⟩) (by assumption) ?_
      rotate_left
      · (intro wx hSw; obtain ⟨e0, e1, e2, e3, e4, e5, e6, e7, e8, e9_⟩ := hSw; go_simp; (try with_reducible rfl))
      (try simp only [Act.put, PS])
      refine till_take (i := 1) (o := _) (v := ?_) rfl (by kernel_rfl) (by kernel_rfl) (by kernel_rfl) (by kernel_rfl) (by rfl) (fun _ _ _ h => h) (Or.inl ⟨by rfl, ?_⟩) (by assumption) ?_
      rotate_left
      · (intro wx hSw; skip; go_simp; (try with_reducible rfl))
      (try simp only [Act.put, PS])
      refine till_take (i := 2) (o := _) (v := ?_) rfl (by kernel_rfl) (by kernel_rfl) (by kernel_rfl) (by kernel_rfl) (by rfl) (fun _ _ _ h => h) (Or.inl ⟨by rfl, ?_⟩) (by assumption) ?_
      rotate_left
      · (intro wx hSw; skip; go_simp; (try with_reducible rfl))
      (try simp only [Act.put, PS])
      refine till_take (i := 3) (o := _) (v := ?_) rfl (by kernel_rfl) (by kernel_rfl) (by kernel_rfl) (by kernel_rfl) (by rfl) (fun _ _ _ h => h) (Or.inl ⟨by rfl, ?_⟩) (by assumption) ?_
      rotate_left
      · (intro wx hSw; skip; go_simp; (try with_reducible rfl))
      (try simp only [Act.put, PS])
      refine till_take (i := 4) (o := _) (v := ?_) rfl (by kernel_rfl) (by kernel_rfl) (by kernel_rfl) (by kernel_rfl) (by rfl) (fun _ _ _ h => h) (Or.inl ⟨by rfl, ?_⟩) (by assumption) ?_
      rotate_left
      · (intro wx hSw; obtain ⟨e0, e1, e2, e3, e4, e5, e6, e7, e8, e9_⟩ := hSw; go_simp; (try with_reducible rfl))
      (try simp only [Act.put, PS])
      refine till_next (i := 5) (o := _) (by kernel_rfl) rfl (fun K hK => ?_)
      go_simp
      go_at_call 20
      refine (CD.out _ ((Q.refl W3).drew)).mono ?_
      rintro e v9 ⟨A9, c9, rfl, hz9, d9⟩
      refine hK.out _ _ (KF.out _ ((Q.refl W3).drew.trans d9)) (fun hTill => ?_)
      clear hK K
      (try simp only [Act.put, PS])
      have q9 : Q W3 v9 := (Q.refl W3).drew.trans d9
      have b9 := B5.out.on q9
      have Z9 := Lib.hid hz9
      clear hz9 d9
      refine till_take (i := 6) (o := _) (v := ?_) rfl (by kernel_rfl) (by kernel_rfl) (by kernel_rfl) (by kernel_rfl) (by rfl) (fun _ _ _ h => h) (Or.inl ⟨by rfl, ?_⟩) (by assumption) ?_
      rotate_left
      · (intro wx hSw; skip; go_simp; (try with_reducible rfl))
      (try simp only [Act.put, PS])
      refine till_take (i := 7) (o := _) (v := ?_) rfl (by kernel_rfl) (by kernel_rfl) (by kernel_rfl) (by kernel_rfl) (by rfl) (fun _ _ _ h => h) (Or.inl ⟨by rfl, ?_⟩) (by assumption) ?_
      rotate_left
      · (intro wx hSw; skip; go_simp; (try with_reducible rfl))
      (try simp only [Act.put, PS])
      refine tillPureZ (i := 8) (o := _) (v := ?_) rfl (by kernel_rfl) (by kernel_rfl) (by kernel_rfl) (by decide) (fun _ _ _ h => h) (Or.inl ⟨by rfl, ?_⟩) (by first | (intro _; assumption) | (intro e; exact absurd e (by decide))) ?_
      rotate_left
      · (intro wx hSw; go_simp; (try with_reducible rfl))
      (try simp only [Act.put, PS])
      obtain ⟨y0, y1, y2, y3, y4, y5⟩ : v9.cell? ⟨p5, 0, none⟩ = some (.slice A5 n5 c5) ∧ v9.cell? ⟨p5, 1, none⟩ = some (.int .i64 d.size) ∧ v9.cell? ⟨p5, 2, none⟩ = some (.int .i64 d.mo) ∧ v9.cell? ⟨p5, 3, none⟩ = some (.int .i64 d.fuel) ∧ v9.cell? ⟨p5, 4, none⟩ = some (.bool d.off) ∧ v9.cell? ⟨p5, 5, none⟩ = some (.int .i64 d.bad) := ⟨b9.cell 0, b9.cell 1, b9.cell 2, b9.cell 3, b9.cell 4, b9.cell 5⟩
      have l0 := b9.frozen 0
      have l1 := b9.frozen 1
      have l2 := b9.frozen 2
      have l3 := b9.frozen 3
      have l4 := b9.frozen 4
      have l5 := b9.frozen 5
      refine till_last (i := 9) (o := _) (by kernel_rfl) rfl (by rfl) (fun K hK => ?_)
      go_simp
      refine hK.out _ _ ?_
      clear hK K
      (try simp only [Act.put, PS])
      refine till_done (by kernel_rfl) ?_ _
      have c_ := ((((((b9.set 0 (.slice A9 n9 c9)).set 1 (.int .i64 x.size)).set 2 (.int .i64 x.mo)).set 3 (.int .i64 x.fuel)).set 4 (.bool x.off)).set 5 (.int .i64 x.bad))
      have q_ : Q w ((((((v9.setCell ⟨p5, 0, none⟩ (.slice A9 n9 c9)).setCell ⟨p5, 1, none⟩ (.int .i64 x.size)).setCell ⟨p5, 2, none⟩ (.int .i64 x.mo)).setCell ⟨p5, 3, none⟩ (.int .i64 x.fuel)).setCell ⟨p5, 4, none⟩ (.bool x.off)).setCell ⟨p5, 5, none⟩ (.int .i64 x.bad)) := (Q.set (Q.set (Q.set (Q.set (Q.set (Q.set (Qw.out.trans q9) HP.out _) HP.out _) HP.out _) HP.out _) HP.out _) HP.out _)
      have k_ : ∀ j, j ≠ p5 → ((((((v9.setCell ⟨p5, 0, none⟩ (.slice A9 n9 c9)).setCell ⟨p5, 1, none⟩ (.int .i64 x.size)).setCell ⟨p5, 2, none⟩ (.int .i64 x.mo)).setCell ⟨p5, 3, none⟩ (.int .i64 x.fuel)).setCell ⟨p5, 4, none⟩ (.bool x.off)).setCell ⟨p5, 5, none⟩ (.int .i64 x.bad)).heap[j]? = v9.heap[j]? := fun j hne => (heap_set _ _ _ _ hne).trans ( (heap_set _ _ _ _ hne).trans ( (heap_set _ _ _ _ hne).trans ( (heap_set _ _ _ _ hne).trans ( (heap_set _ _ _ _ hne).trans ( heap_set _ _ _ _ hne)))))
      have s_ : v9.heap.size ≤ ((((((v9.setCell ⟨p5, 0, none⟩ (.slice A9 n9 c9)).setCell ⟨p5, 1, none⟩ (.int .i64 x.size)).setCell ⟨p5, 2, none⟩ (.int .i64 x.mo)).setCell ⟨p5, 3, none⟩ (.int .i64 x.fuel)).setCell ⟨p5, 4, none⟩ (.bool x.off)).setCell ⟨p5, 5, none⟩ (.int .i64 x.bad)).heap.size := by simp
      obtain ⟨we, hwe⟩ : ∃ z, z = ((((((v9.setCell ⟨p5, 0, none⟩ (.slice A9 n9 c9)).setCell ⟨p5, 1, none⟩ (.int .i64 x.size)).setCell ⟨p5, 2, none⟩ (.int .i64 x.mo)).setCell ⟨p5, 3, none⟩ (.int .i64 x.fuel)).setCell ⟨p5, 4, none⟩ (.bool x.off)).setCell ⟨p5, 5, none⟩ (.int .i64 x.bad)) := ⟨_, rfl⟩
      rw [← hwe] at c_ q_ k_ s_ ⊢
      clear hwe
      simp only [List.setIfInBounds_toArray, List.set_cons_zero, List.set_cons_succ] at c_
      have B9 := Lib.hid b9
      have C_ := Lib.hid c_
      have Q_ := Lib.hid q_
      have K_ := Lib.hid k_
      have S_ := Lib.hid s_
      have Q9_ := Lib.hid q9
      clear c_ q_ k_ s_ b9 q9 KF y0 y1 y2 y3 y4 y5 l0 l1 l2 l3 l4 l5 hTill
      go_wp2_with fail
      go_roundw
      case rel => exact ⟨i + 1, x, by omega, by omega, by go_num, HFX, Lib.hid ⟨A9, c9, n9, HN9.out, C_.out, Zns.off Z9.out B9.out K_.out S_.out⟩, Q_, Lib.hid ((HLB.out.on Q9_.out).same (K_.out _ (by have := HPL.out; omega)))⟩
      case measure => simp [intOf]; omega
    · have hlt0 : ¬ (i < ll.length ∧ i < 30) := hlt
      go_upto_region 5 with fail
      go_cut [34] from 27 to 34 (fun V wx => V = .bool false ∧ W3 = wx)
      case first =>
        by_cases h1 : i < ll.length
        · have h1' : (i : Int) < (ll.length : Int) := by omega
          have h2' : ¬ (i : Int) < 30 := by omega
          clear hlt0 hlt
          go_wp2_with fail
          go_meet
          exact ⟨rfl, rfl⟩
        · have h1' : ¬ (i : Int) < (ll.length : Int) := by omega
          clear hlt0 hlt
          go_wp2_with fail
          go_meet
          exact ⟨rfl, rfl⟩
      case rest =>
      obtain ⟨rfl, rfl⟩ := hcut
      clear hlt0 hlt
      obtain ⟨A5, c5, n5, hn5, b5, z5⟩ := HB.out
      have hm30 := hi30
      obtain ⟨hflu, hfre, hfirm⟩ := fre_flu HM.out
      have CFl := Lib.hid (fun (y : World) (q : Q W3 y) => dev_c (d := fluX d) (k := 0) (ki := 0) (n := 4) (fluZ_any d _ y (may_sm HM.out.1) (fre_okN HM.out (by omega)) (z5.on q)) hflu rfl hfre.2.2.2.2.symm)
      unfold dvV at CFl
      obtain ⟨fd, hfd⟩ : ∃ x, x = fluX d := ⟨_, rfl⟩
      rw [← hfd] at CFl hfre hfirm
      have HFRE := Lib.hid hfre
      have HFIRM : Hid (∀ j (hj : j < fd.zs.length), fd.zs[j].firm = (fd.zs[j].b.length : Nat)) := Lib.hid (by subst hfd; exact hfirm)
      have B5 := Lib.hid b5
      have Qw := Lib.hid HQ.out
      obtain ⟨x0, x1, x2, x3, x4, x5⟩ : W3.cell? ⟨p5, 0, none⟩ = some (.slice A5 n5 c5) ∧ W3.cell? ⟨p5, 1, none⟩ = some (.int .i64 d.size) ∧ W3.cell? ⟨p5, 2, none⟩ = some (.int .i64 d.mo) ∧ W3.cell? ⟨p5, 3, none⟩ = some (.int .i64 d.fuel) ∧ W3.cell? ⟨p5, 4, none⟩ = some (.bool d.off) ∧ W3.cell? ⟨p5, 5, none⟩ = some (.int .i64 d.bad) := ⟨b5.cell 0, b5.cell 1, b5.cell 2, b5.cell 3, b5.cell 4, b5.cell 5⟩
      clear hfd hflu hfre hfirm b5 z5 hn5 HB HM HQ
      go_wp2_with fail
      refine (CFl.out _ (Q.refl _)).mono ?_
      rintro e w5 ⟨A8, c8, rfl, hz8, d5⟩
      clear x0 x1 x2 x3 x4 x5
      have b5 := B5.out.on d5
      have q5 := Qw.out.trans d5
      have D5_ := Lib.hid d5
      have HZ8 := Lib.hid hz8
      have HB5 := Lib.hid b5
      clear d5 hz8
      obtain ⟨x0, x1, x2, x3, x4, x5⟩ : w5.cell? ⟨p5, 0, none⟩ = some (.slice A5 n5 c5) ∧ w5.cell? ⟨p5, 1, none⟩ = some (.int .i64 d.size) ∧ w5.cell? ⟨p5, 2, none⟩ = some (.int .i64 d.mo) ∧ w5.cell? ⟨p5, 3, none⟩ = some (.int .i64 d.fuel) ∧ w5.cell? ⟨p5, 4, none⟩ = some (.bool d.off) ∧ w5.cell? ⟨p5, 5, none⟩ = some (.int .i64 d.bad) := ⟨b5.cell 0, b5.cell 1, b5.cell 2, b5.cell 3, b5.cell 4, b5.cell 5⟩
      have l0 := b5.frozen 0
      have l1 := b5.frozen 1
      have l2 := b5.frozen 2
      have l3 := b5.frozen 3
      have l4 := b5.frozen 4
      have l5 := b5.frozen 5
      go_upto_region 9 with fail
      clear x0 x1 x2 x3 x4 x5 l0 l1 l2 l3 l4 l5
      have c_ := ((((((b5.set 0 (.slice A8 4 c8)).set 1 (.int .i64 fd.size)).set 2 (.int .i64 fd.mo)).set 3 (.int .i64 fd.fuel)).set 4 (.bool fd.off)).set 5 (.int .i64 fd.bad))
      have q_ : Q w ((((((w5.setCell ⟨p5, 0, none⟩ (.slice A8 4 c8)).setCell ⟨p5, 1, none⟩ (.int .i64 fd.size)).setCell ⟨p5, 2, none⟩ (.int .i64 fd.mo)).setCell ⟨p5, 3, none⟩ (.int .i64 fd.fuel)).setCell ⟨p5, 4, none⟩ (.bool fd.off)).setCell ⟨p5, 5, none⟩ (.int .i64 fd.bad)) := (Q.set (Q.set (Q.set (Q.set (Q.set (Q.set q5 HP.out _) HP.out _) HP.out _) HP.out _) HP.out _) HP.out _)
      have k_ : ∀ j, j ≠ p5 → ((((((w5.setCell ⟨p5, 0, none⟩ (.slice A8 4 c8)).setCell ⟨p5, 1, none⟩ (.int .i64 fd.size)).setCell ⟨p5, 2, none⟩ (.int .i64 fd.mo)).setCell ⟨p5, 3, none⟩ (.int .i64 fd.fuel)).setCell ⟨p5, 4, none⟩ (.bool fd.off)).setCell ⟨p5, 5, none⟩ (.int .i64 fd.bad)).heap[j]? = w5.heap[j]? := fun j hne => (heap_set _ _ _ _ hne).trans ( (heap_set _ _ _ _ hne).trans ( (heap_set _ _ _ _ hne).trans ( (heap_set _ _ _ _ hne).trans ( (heap_set _ _ _ _ hne).trans ( heap_set _ _ _ _ hne)))))
      have s_ : w5.heap.size ≤ ((((((w5.setCell ⟨p5, 0, none⟩ (.slice A8 4 c8)).setCell ⟨p5, 1, none⟩ (.int .i64 fd.size)).setCell ⟨p5, 2, none⟩ (.int .i64 fd.mo)).setCell ⟨p5, 3, none⟩ (.int .i64 fd.fuel)).setCell ⟨p5, 4, none⟩ (.bool fd.off)).setCell ⟨p5, 5, none⟩ (.int .i64 fd.bad)).heap.size := by simp
      obtain ⟨W7, hW7⟩ : ∃ z, z = ((((((w5.setCell ⟨p5, 0, none⟩ (.slice A8 4 c8)).setCell ⟨p5, 1, none⟩ (.int .i64 fd.size)).setCell ⟨p5, 2, none⟩ (.int .i64 fd.mo)).setCell ⟨p5, 3, none⟩ (.int .i64 fd.fuel)).setCell ⟨p5, 4, none⟩ (.bool fd.off)).setCell ⟨p5, 5, none⟩ (.int .i64 fd.bad)) := ⟨_, rfl⟩
      rw [← hW7] at c_ q_ k_ s_ ⊢
      clear hW7
      simp only [List.setIfInBounds_toArray, List.set_cons_zero, List.set_cons_succ] at c_
      have CW7 : Hid (Bx W7 (p5) 24 #[.slice A8 4 c8, .int .i64 fd.size, .int .i64 fd.mo, .int .i64 fd.fuel, .bool fd.off, .int .i64 fd.bad]) := Lib.hid c_
      have QW7 := Lib.hid q_
      have KW7 := Lib.hid k_
      have SW7 := Lib.hid s_
      clear c_ q_ k_ s_
      clear b5 q5
      have HZW := Lib.hid (Zns.off HZ8.out HB5.out KW7.out SW7.out)
      have HLW := Lib.hid ((HLB.out.on D5_.out).same (KW7.out w.heap.size (by have := HPL.out; omega)))
      clear HZ8 HB5 KW7 SW7 HLB
      have b11 := Bx.new W7 24 #[.slice A8 4 c8, .int .i64 fd.size, .int .i64 fd.mo, .int .i64 fd.fuel, .bool fd.off, .int .i64 fd.bad]
      have q11 := (Q.refl W7).alloc (.cells #[.slice A8 4 c8, .int .i64 fd.size, .int .i64 fd.mo, .int .i64 fd.fuel, .bool fd.off, .int .i64 fd.bad] 24)
      obtain ⟨x0, x1, x2, x3, x4, x5⟩ : W7.cell? ⟨p5, 0, none⟩ = some (.slice A8 4 c8) ∧ W7.cell? ⟨p5, 1, none⟩ = some (.int .i64 fd.size) ∧ W7.cell? ⟨p5, 2, none⟩ = some (.int .i64 fd.mo) ∧ W7.cell? ⟨p5, 3, none⟩ = some (.int .i64 fd.fuel) ∧ W7.cell? ⟨p5, 4, none⟩ = some (.bool fd.off) ∧ W7.cell? ⟨p5, 5, none⟩ = some (.int .i64 fd.bad) := ⟨CW7.out.cell 0, CW7.out.cell 1, CW7.out.cell 2, CW7.out.cell 3, CW7.out.cell 4, CW7.out.cell 5⟩
      obtain ⟨p11, hp11⟩ : ∃ p, p = W7.heap.size := ⟨_, rfl⟩
      obtain ⟨W8, hW8⟩ : ∃ z, z = W7.alloc (.cells #[.slice A8 4 c8, .int .i64 fd.size, .int .i64 fd.mo, .int .i64 fd.fuel, .bool fd.off, .int .i64 fd.bad] 24) := ⟨_, rfl⟩
      have hpp : p5 < p11 := by rw [hp11]; exact CW7.out.lt
      rw [← hp11, ← hW8] at b11
      rw [← hW8] at q11
      go_upto_region 12 with fail
      rw [← hp11, ← hW8]
      clear hp11 hW8 x0 x1 x2 x3 x4 x5
      have HB11 := Lib.hid b11
      have HB5W := Lib.hid (CW7.out.on q11)
      have HZX := Lib.hid (HZW.out.on q11)
      have HLX := Lib.hid (HLW.out.on q11)
      have QX := Lib.hid (QW7.out.trans q11)
      have HPP := Lib.hid hpp
      have HP11 : Hid (w.heap.size ≤ p11) := Lib.hid (by have := HP.out; omega)
      clear b11 q11 hpp HZW HLW CW7 QW7
      have hm : i ≤ 30 := hi30
      go_wp2_with fail
      clear hm30
      go_loopw [12] (fun I wr => ∃ (j : Nat) (g : Dv), j ≤ lb.length ∧ j ≤ 30 ∧ I = .int .i64 j ∧ Hid (Fre g (30 + j)) ∧ Hid (Grow fd g) ∧ Hid (∃ A c n5, n5 = g.zs.length ∧ Bx wr p11 24 #[.slice A n5 c, .int .i64 g.size, .int .i64 g.mo, .int .i64 g.fuel, .bool g.off, .int .i64 g.bad] ∧ Zns wr wr.heap.size (.slice A n5 c) g.zs) ∧ Hid (Q w wr) ∧ Hid (Bx wr w.heap.size 27 #[.slice AK nk cK, .int .i64 zo, .int .i64 cu]) ∧ Hid (Bx wr p5 24 #[.slice A8 4 c8, .int .i64 fd.size, .int .i64 fd.mo, .int .i64 fd.fuel, .bool fd.off, .int .i64 fd.bad]) ∧ Hid (Zns wr wr.heap.size (.slice A8 4 c8) fd.zs)) (fun I _ => lb.length - (intOf I).toNat)
      case atStart => exact ⟨0, fd, Nat.zero_le _, Nat.zero_le _, rfl, Lib.hid (fre_mono HFRE.out (by omega)), Lib.hid (Grow.refl _), Lib.hid ⟨A8, c8, 4, HFRE.out.2.2.2.2.symm, HB11.out, HZX.out⟩, QX, HLX, HB5W, HZX⟩
      case round =>
        obtain ⟨j, g, hjl, hj30, rfl, HM, HGG, HB, HQ, HLB, HB5, HZ5⟩ := hrel
        obtain ⟨W4, hW4⟩ : ∃ z, z = wr := ⟨_, rfl⟩
        subst hW4
        by_cases hlt : j < lb.length ∧ j < 30
        · obtain ⟨hlt1, hlt2⟩ := hlt
          have hil1 : (j : Int) < (lb.length : Int) := by omega
          have hil2 : (j : Int) < 30 := by omega
          by_cases hk34 : lb[j].kind % 5 ≠ 3 ∧ lb[j].kind % 5 ≠ 4
          · obtain ⟨a, cA, eA, hokA, hat⟩ := HTM.out j hlt1
            injection eA with eA1 eA2 eA3
            subst eA1
            have HAT := Lib.hid hat
            have HFX := Lib.hid (fre_act HM.out (by omega) lb[j])
            have HGR := Lib.hid (act_grow HM.out.2.1 HM.out.2.2.1 HM.out.1 hk34.1 hk34.2)
            have HK34 := Lib.hid hk34
            have hdo := Lib.hid (fun (y : World) (u : Value) (h : Zns y y.heap.size u g.zs) => do_any g u lb[j] y (may_sm HM.out.1) (fre_okN HM.out (by omega)) hokA h)
            obtain ⟨⟨kind, zone, many, c⟩, hy⟩ : ∃ y, y = lb[j] := ⟨_, rfl⟩
            rw [← hy] at HAT HFX hdo HGR HK34
            clear hk34 hat hokA hy eA2 eA3
            obtain ⟨r, hr⟩ : ∃ r, r = actD g ⟨kind, zone, many, c⟩ := ⟨_, rfl⟩
            rw [← hr] at HFX hdo HGR
            clear hr
            obtain ⟨A5, c5, n5, hn5, b5, z5⟩ := HB.out
            obtain ⟨⟨x, e9⟩, hxe⟩ : ∃ q : Dv × Nat, q = r := ⟨_, rfl⟩
            subst hxe
            obtain ⟨n9, hn9⟩ : ∃ n, n = x.zs.length := ⟨_, rfl⟩
            have HN9 := Lib.hid hn9
            have CD := Lib.hid (fun (y : World) (q : Q W4 y) => dev_c (d := x) (k := e9) (ki := (e9 : Int)) (n := n9) (hdo.out y _ (z5.on q)) rfl rfl hn9)
            unfold dvV acV at CD
            simp only at CD
            have B5 := Lib.hid b5
            have Z5 := Lib.hid z5
            have Qw := Lib.hid HQ.out
            have KF : Hid (∀ y, Q W4 y → (fun (W : World) => W.cell? ⟨p11, 0, none⟩ = some (.slice A5 n5 c5) ∧ W.cell? ⟨p11, 1, none⟩ = some (.int .i64 g.size) ∧ W.cell? ⟨p11, 2, none⟩ = some (.int .i64 g.mo) ∧ W.cell? ⟨p11, 3, none⟩ = some (.int .i64 g.fuel) ∧ W.cell? ⟨p11, 4, none⟩ = some (.bool g.off) ∧ W.cell? ⟨p11, 5, none⟩ = some (.int .i64 g.bad) ∧ W.cell? (a.add (j * 4)) = some (.int .u8 (kind : Nat)) ∧ W.cell? ⟨(a.add (j * 4)).block, (a.add (j * 4)).off + 1, none⟩ = some (.int .u8 (zone : Nat)) ∧ W.cell? ⟨(a.add (j * 4)).block, (a.add (j * 4)).off + 2, none⟩ = some (.int .u8 (many : Nat)) ∧ W.cell? ⟨(a.add (j * 4)).block, (a.add (j * 4)).off + 3, none⟩ = some (.int .u8 (c : Nat))) y) := Lib.hid (fun y q => ⟨(B5.out.on q).cell 0, (B5.out.on q).cell 1, (B5.out.on q).cell 2, (B5.out.on q).cell 3, (B5.out.on q).cell 4, (B5.out.on q).cell 5, (HAT.out y (HQ.out.trans q)).1, (HAT.out y (HQ.out.trans q)).2.1, (HAT.out y (HQ.out.trans q)).2.2.1, (HAT.out y (HQ.out.trans q)).2.2.2⟩)
            clear hn9 hn5 b5 z5 hdo
            obtain ⟨kk, hkk⟩ : ∃ m, m = kind % 5 := ⟨_, rfl⟩
            have ek : (kind : Int).tmod 5 = (kk : Int) := by rw [show (5 : Int) = ((5 : Nat) : Int) by rfl, ← Int.ofNat_tmod, hkk]
            have ek2 : (kind : Int) % 5 = (kk : Int) := by omega
            have hkk5 : kk < 5 := by omega
            have hk9 := HK34.out
            simp only at hk9
            have k3 : ((kk : Int) != 3) = true := by simp; omega
            have k4 : ((kk : Int) != 4) = true := by simp; omega
            clear hk9
            obtain ⟨a0, a1, a2, a3⟩ := HAT.out W4 HQ.out
            clear hkk
            go_upto_region 17 with fail
            clear a0 a1 a2 a3 ek ek2
            refine till_begin (F := (fun (W : World) => W.cell? ⟨p11, 0, none⟩ = some (.slice A5 n5 c5) ∧ W.cell? ⟨p11, 1, none⟩ = some (.int .i64 g.size) ∧ W.cell? ⟨p11, 2, none⟩ = some (.int .i64 g.mo) ∧ W.cell? ⟨p11, 3, none⟩ = some (.int .i64 g.fuel) ∧ W.cell? ⟨p11, 4, none⟩ = some (.bool g.off) ∧ W.cell? ⟨p11, 5, none⟩ = some (.int .i64 g.bad) ∧ W.cell? (a.add (j * 4)) = some (.int .u8 (kind : Nat)) ∧ W.cell? ⟨(a.add (j * 4)).block, (a.add (j * 4)).off + 1, none⟩ = some (.int .u8 (zone : Nat)) ∧ W.cell? ⟨(a.add (j * 4)).block, (a.add (j * 4)).off + 2, none⟩ = some (.int .u8 (many : Nat)) ∧ W.cell? ⟨(a.add (j * 4)).block, (a.add (j * 4)).off + 3, none⟩ = some (.int .u8 (c : Nat)))) (st := 9) (by kernel_rfl) (KF.out _ ((Q.refl W4).drew)) (fun hTill => ?_)
            refine till_take (i := 0) (o := _) (v := ?_) rfl (by kernel_rfl) (by kernel_rfl) (by kernel_rfl) (by kernel_rfl) (by rfl) (fun _ _ _ h => h) (Or.inl ⟨by rfl, ?_⟩) (by assumption) ?_
            rotate_left
            · (intro wx hSw; obtain ⟨e0, e1, e2, e3, e4, e5, e6, e7, e8, e9_⟩ := hSw; go_simp; (try with_reducible rfl))
            (try simp only [Act.put, PS])
            refine till_take (i := 1) (o := _) (v := ?_) rfl (by kernel_rfl) (by kernel_rfl) (by kernel_rfl) (by kernel_rfl) (by rfl) (fun _ _ _ h => h) (Or.inl ⟨by rfl, ?_⟩) (by assumption) ?_
            rotate_left
            · (intro wx hSw; skip; go_simp; (try with_reducible rfl))
            (try simp only [Act.put, PS])
            refine till_take (i := 2) (o := _) (v := ?_) rfl (by kernel_rfl) (by kernel_rfl) (by kernel_rfl) (by kernel_rfl) (by rfl) (fun _ _ _ h => h) (Or.inl ⟨by rfl, ?_⟩) (by assumption) ?_
            rotate_left
            · (intro wx hSw; skip; go_simp; (try with_reducible rfl))
            (try simp only [Act.put, PS])
            refine till_take (i := 3) (o := _) (v := ?_) rfl (by kernel_rfl) (by kernel_rfl) (by kernel_rfl) (by kernel_rfl) (by rfl) (fun _ _ _ h => h) (Or.inl ⟨by rfl, ?_⟩) (by assumption) ?_
            rotate_left
            · (intro wx hSw; skip; go_simp; (try with_reducible rfl))
            (try simp only [Act.put, PS])
            refine till_take (i := 4) (o := _) (v := ?_) rfl (by kernel_rfl) (by kernel_rfl) (by kernel_rfl) (by kernel_rfl) (by rfl) (fun _ _ _ h => h) (Or.inl ⟨by rfl, ?_⟩) (by assumption) ?_
            rotate_left
            · (intro wx hSw; obtain ⟨e0, e1, e2, e3, e4, e5, e6, e7, e8, e9_⟩ := hSw; go_simp; (try with_reducible rfl))
            (try simp only [Act.put, PS])
            refine till_next (i := 5) (o := _) (by kernel_rfl) rfl (fun K hK => ?_)
            go_simp
            go_at_call 20
            refine (CD.out _ ((Q.refl W4).drew)).mono ?_
            rintro e v9 ⟨A9, c9, rfl, hz9, d9⟩
            refine hK.out _ _ (KF.out _ ((Q.refl W4).drew.trans d9)) (fun hTill => ?_)
            clear hK K
            (try simp only [Act.put, PS])
            have q9 : Q W4 v9 := (Q.refl W4).drew.trans d9
            have b9 := B5.out.on q9
            have Z9 := Lib.hid hz9
            clear hz9 d9
            refine till_take (i := 6) (o := _) (v := ?_) rfl (by kernel_rfl) (by kernel_rfl) (by kernel_rfl) (by kernel_rfl) (by rfl) (fun _ _ _ h => h) (Or.inl ⟨by rfl, ?_⟩) (by assumption) ?_
            rotate_left
            · (intro wx hSw; skip; go_simp; (try with_reducible rfl))
            (try simp only [Act.put, PS])
            refine till_take (i := 7) (o := _) (v := ?_) rfl (by kernel_rfl) (by kernel_rfl) (by kernel_rfl) (by kernel_rfl) (by rfl) (fun _ _ _ h => h) (Or.inl ⟨by rfl, ?_⟩) (by assumption) ?_
            rotate_left
            · (intro wx hSw; skip; go_simp; (try with_reducible rfl))
            (try simp only [Act.put, PS])
            refine tillPureZ (i := 8) (o := _) (v := ?_) rfl (by kernel_rfl) (by kernel_rfl) (by kernel_rfl) (by decide) (fun _ _ _ h => h) (Or.inl ⟨by rfl, ?_⟩) (by first | (intro _; assumption) | (intro e; exact absurd e (by decide))) ?_
            rotate_left
            · (intro wx hSw; go_simp; (try with_reducible rfl))
            (try simp only [Act.put, PS])
            obtain ⟨y0, y1, y2, y3, y4, y5⟩ : v9.cell? ⟨p11, 0, none⟩ = some (.slice A5 n5 c5) ∧ v9.cell? ⟨p11, 1, none⟩ = some (.int .i64 g.size) ∧ v9.cell? ⟨p11, 2, none⟩ = some (.int .i64 g.mo) ∧ v9.cell? ⟨p11, 3, none⟩ = some (.int .i64 g.fuel) ∧ v9.cell? ⟨p11, 4, none⟩ = some (.bool g.off) ∧ v9.cell? ⟨p11, 5, none⟩ = some (.int .i64 g.bad) := ⟨b9.cell 0, b9.cell 1, b9.cell 2, b9.cell 3, b9.cell 4, b9.cell 5⟩
            have l0 := b9.frozen 0
            have l1 := b9.frozen 1
            have l2 := b9.frozen 2
            have l3 := b9.frozen 3
            have l4 := b9.frozen 4
            have l5 := b9.frozen 5
            refine till_last (i := 9) (o := _) (by kernel_rfl) rfl (by rfl) (fun K hK => ?_)
            go_simp
            refine hK.out _ _ ?_
            clear hK K
            (try simp only [Act.put, PS])
            refine till_done (by kernel_rfl) ?_ _
            have c_ := ((((((b9.set 0 (.slice A9 n9 c9)).set 1 (.int .i64 x.size)).set 2 (.int .i64 x.mo)).set 3 (.int .i64 x.fuel)).set 4 (.bool x.off)).set 5 (.int .i64 x.bad))
            have q_ : Q w ((((((v9.setCell ⟨p11, 0, none⟩ (.slice A9 n9 c9)).setCell ⟨p11, 1, none⟩ (.int .i64 x.size)).setCell ⟨p11, 2, none⟩ (.int .i64 x.mo)).setCell ⟨p11, 3, none⟩ (.int .i64 x.fuel)).setCell ⟨p11, 4, none⟩ (.bool x.off)).setCell ⟨p11, 5, none⟩ (.int .i64 x.bad)) := (Q.set (Q.set (Q.set (Q.set (Q.set (Q.set (Qw.out.trans q9) HP11.out _) HP11.out _) HP11.out _) HP11.out _) HP11.out _) HP11.out _)
            have k_ : ∀ j, j ≠ p11 → ((((((v9.setCell ⟨p11, 0, none⟩ (.slice A9 n9 c9)).setCell ⟨p11, 1, none⟩ (.int .i64 x.size)).setCell ⟨p11, 2, none⟩ (.int .i64 x.mo)).setCell ⟨p11, 3, none⟩ (.int .i64 x.fuel)).setCell ⟨p11, 4, none⟩ (.bool x.off)).setCell ⟨p11, 5, none⟩ (.int .i64 x.bad)).heap[j]? = v9.heap[j]? := fun j hne => (heap_set _ _ _ _ hne).trans ( (heap_set _ _ _ _ hne).trans ( (heap_set _ _ _ _ hne).trans ( (heap_set _ _ _ _ hne).trans ( (heap_set _ _ _ _ hne).trans ( heap_set _ _ _ _ hne)))))
            have s_ : v9.heap.size ≤ ((((((v9.setCell ⟨p11, 0, none⟩ (.slice A9 n9 c9)).setCell ⟨p11, 1, none⟩ (.int .i64 x.size)).setCell ⟨p11, 2, none⟩ (.int .i64 x.mo)).setCell ⟨p11, 3, none⟩ (.int .i64 x.fuel)).setCell ⟨p11, 4, none⟩ (.bool x.off)).setCell ⟨p11, 5, none⟩ (.int .i64 x.bad)).heap.size := by simp
            obtain ⟨we, hwe⟩ : ∃ z, z = ((((((v9.setCell ⟨p11, 0, none⟩ (.slice A9 n9 c9)).setCell ⟨p11, 1, none⟩ (.int .i64 x.size)).setCell ⟨p11, 2, none⟩ (.int .i64 x.mo)).setCell ⟨p11, 3, none⟩ (.int .i64 x.fuel)).setCell ⟨p11, 4, none⟩ (.bool x.off)).setCell ⟨p11, 5, none⟩ (.int .i64 x.bad)) := ⟨_, rfl⟩
            rw [← hwe] at c_ q_ k_ s_ ⊢
            clear hwe
            simp only [List.setIfInBounds_toArray, List.set_cons_zero, List.set_cons_succ] at c_
            have B9 := Lib.hid b9
            have C_ := Lib.hid c_
            have Q_ := Lib.hid q_
            have K_ := Lib.hid k_
            have S_ := Lib.hid s_
            have Q9_ := Lib.hid q9
            clear c_ q_ k_ s_ b9 q9 KF y0 y1 y2 y3 y4 y5 l0 l1 l2 l3 l4 l5 hTill
            go_wp2_with fail
            go_roundw
            case rel => exact ⟨j + 1, x, by omega, by omega, by go_num, HFX, Lib.hid (HGG.out.trans HGR.out), Lib.hid ⟨A9, c9, n9, HN9.out, C_.out, Zns.off Z9.out B9.out K_.out S_.out⟩, Q_, Lib.hid ((HLB.out.on Q9_.out).same (K_.out _ (by have := HP11.out; have := HPP.out; have := HPL.out; omega))), Lib.hid ((HB5.out.on Q9_.out).same (K_.out _ (by have := HPP.out; omega))), Lib.hid (Zns.off (HZ5.out.on Q9_.out) B9.out K_.out S_.out)⟩
            case measure => simp [intOf]; omega
          · obtain ⟨a, cA, eA, hokA, hat⟩ := HTM.out j hlt1
            injection eA with eA1 eA2 eA3
            subst eA1
            have a0 := (hat W4 HQ.out).1
            obtain ⟨kind, hki⟩ : ∃ m, m = lb[j].kind := ⟨_, rfl⟩
            rw [← hki] at a0 hk34
            obtain ⟨kk, hkk⟩ : ∃ m, m = kind % 5 := ⟨_, rfl⟩
            have ek : (kind : Int).tmod 5 = (kk : Int) := by rw [show (5 : Int) = ((5 : Nat) : Int) by rfl, ← Int.ofNat_tmod, hkk]
            have ek2 : (kind : Int) % 5 = (kk : Int) := by omega
            have hkk5 : kk < 5 := by omega
            rw [← hkk] at hk34
            clear hat hokA eA2 eA3 hki hkk
            by_cases h3 : kk = 3
            · have k3 : ((kk : Int) != 3) = false := by simp; omega
              clear h3 hk34
              go_wp2_with fail
              go_roundw
              case rel => exact ⟨j + 1, g, by omega, by omega, by go_num, Lib.hid (fre_mono HM.out (by omega)), HGG, HB, HQ, HLB, HB5, HZ5⟩
              case measure => simp [intOf]; omega
            · have k3 : ((kk : Int) != 3) = true := by simp; omega
              have k4 : ((kk : Int) != 4) = false := by simp; omega
              clear h3 hk34
              go_wp2_with fail
              go_roundw
              case rel => exact ⟨j + 1, g, by omega, by omega, by go_num, Lib.hid (fre_mono HM.out (by omega)), HGG, HB, HQ, HLB, HB5, HZ5⟩
              case measure => simp [intOf]; omega
        · have hlt0 : ¬ (j < lb.length ∧ j < 30) := hlt
          go_upto_region 13 with fail
          go_cut [67] from 60 to 67 (fun V wx => V = .bool false ∧ W4 = wx)
          case first =>
            by_cases h1 : j < lb.length
            · have h1' : (j : Int) < (lb.length : Int) := by omega
              have h2' : ¬ (j : Int) < 30 := by omega
              clear hlt0 hlt
              go_wp2_with fail
              go_meet
              exact ⟨rfl, rfl⟩
            · have h1' : ¬ (j : Int) < (lb.length : Int) := by omega
              clear hlt0 hlt
              go_wp2_with fail
              go_meet
              exact ⟨rfl, rfl⟩
          case rest =>
          obtain ⟨rfl, rfl⟩ := hcut
          clear hlt0 hlt
          obtain ⟨A11, c11, n11, hn11, b11, z11⟩ := HB.out
          have hn4 : n11 = 4 := by rw [hn11]; exact HM.out.2.2.2.2
          subst hn4
          have CCx := Lib.hid (CC.out g _ W4 (may_sm HM.out.1) z11 HQ.out)
          have HHOLD : Hid (∀ i, i < 4 → ∃ (h1 : i < fd.zs.length) (h2 : i < g.zs.length) (h3 : i < (crashD g o).zs.length), fd.zs[i].b.length ≤ (crashD g o).zs[i].b.length ∧ (crashD g o).zs[i].b.length ≤ g.zs[i].b.length ∧ ∀ k, k < (crashD g o).zs[i].b.length → (crashD g o).zs[i].b[k]? = g.zs[i].b[k]? ∨ ((i : Int) = zo ∧ k + 1 = (crashD g o).zs[i].b.length ∧ fd.zs[i].b.length ≤ k)) := Lib.hid (fun i hi => by
            have e1 := HFRE.out.2.2.2.2
            have e2 := HM.out.2.2.2.2
            have h1 : i < fd.zs.length := by omega
            have h2 : i < g.zs.length := by omega
            have h3 : i < (crashD g o).zs.length := by rw [crash_len HM.out.1]; omega
            refine ⟨h1, h2, h3, ?_⟩
            rw [crash_at HM.out.1 o h2 h3, HZO.out]
            exact crash_hold HGG.out HM.out.1 HFIRM.out o h1 h2)
          have hcl : (crashD g o).zs.length = 4 := by rw [crash_len HM.out.1]; exact HM.out.2.2.2.2
          have HSMg := Lib.hid (may_sm HM.out.1)
          have HSMf := Lib.hid (may_sm HFRE.out.1)
          have HSMc := Lib.hid (may_sm (crash_may HM.out.1 o))
          obtain ⟨cy, hcy⟩ : ∃ y, y = crashD g o := ⟨_, rfl⟩
          rw [← hcy] at CCx HHOLD hcl HSMc
          unfold dvV at CCx
          obtain ⟨x0, x1, x2, x3, x4, x5⟩ : W4.cell? ⟨p11, 0, none⟩ = some (.slice A11 4 c11) ∧ W4.cell? ⟨p11, 1, none⟩ = some (.int .i64 g.size) ∧ W4.cell? ⟨p11, 2, none⟩ = some (.int .i64 g.mo) ∧ W4.cell? ⟨p11, 3, none⟩ = some (.int .i64 g.fuel) ∧ W4.cell? ⟨p11, 4, none⟩ = some (.bool g.off) ∧ W4.cell? ⟨p11, 5, none⟩ = some (.int .i64 g.bad) := ⟨b11.cell 0, b11.cell 1, b11.cell 2, b11.cell 3, b11.cell 4, b11.cell 5⟩
          obtain ⟨y0, y1, y2⟩ : W4.cell? ⟨w.heap.size, 0, none⟩ = some (.slice AK nk cK) ∧ W4.cell? ⟨w.heap.size, 1, none⟩ = some (.int .i64 zo) ∧ W4.cell? ⟨w.heap.size, 2, none⟩ = some (.int .i64 cu) := ⟨HLB.out.cell 0, HLB.out.cell 1, HLB.out.cell 2⟩
          have HB11' := Lib.hid b11
          have HZ11 := Lib.hid z11
          have HQ4 := Lib.hid HQ.out
          clear b11 z11 hn11 HB HM HQ hcy CC
          go_wp2_with fail
          refine (CCx.out).mono ?_
          rintro e v1 ⟨u1, rfl, hu1, d1⟩
          clear x0 x1 x2 x3 x4 x5 y0 y1 y2
          obtain ⟨A14, c14, rfl⟩ := hu1.form
          rw [hcl] at hu1
          unfold dvV
          rw [hcl]
          have b14 := Bx.new v1 24 #[.slice A14 4 c14, .int .i64 cy.size, .int .i64 cy.mo, .int .i64 cy.fuel, .bool cy.off, .int .i64 cy.bad]
          have q14 := (Q.refl v1).alloc (.cells #[.slice A14 4 c14, .int .i64 cy.size, .int .i64 cy.mo, .int .i64 cy.fuel, .bool cy.off, .int .i64 cy.bad] 24)
          have z14 := hu1.on q14
          obtain ⟨p14, hp14⟩ : ∃ p, p = v1.heap.size := ⟨_, rfl⟩
          obtain ⟨W5, hW5⟩ : ∃ z, z = v1.alloc (.cells #[.slice A14 4 c14, .int .i64 cy.size, .int .i64 cy.mo, .int .i64 cy.fuel, .bool cy.off, .int .i64 cy.bad] 24) := ⟨_, rfl⟩
          rw [← hp14, ← hW5] at b14
          rw [← hW5] at q14 z14
          go_upto_region 19 with fail
          rw [← hp14, ← hW5]
          clear hp14 hW5 hu1 hcl
          have QQ := Lib.hid (d1.trans q14)
          have G14 := Lib.hid b14
          have GZ14 := Lib.hid z14
          have G11 := Lib.hid (HB11'.out.on QQ.out)
          have GZ11 := Lib.hid (HZ11.out.on QQ.out)
          have G5 := Lib.hid (HB5.out.on QQ.out)
          have GZ5 := Lib.hid (HZ5.out.on QQ.out)
          have GL := Lib.hid (HLB.out.on QQ.out)
          have GQ := Lib.hid (HQ4.out.trans QQ.out)
          have s0 : W5.cell? ⟨p14, 0, none⟩ = some (.slice A14 4 c14) := G14.out.cell 0
          have t0 : W5.cell? ⟨p11, 0, none⟩ = some (.slice A11 4 c11) := G11.out.cell 0
          clear b14 q14 z14 d1 QQ HB11' HZ11 HB5 HZ5 HLB HQ4 HB11 HB5W HZX HLX
          go_wp2_with fail
          clear s0 t0
          go_loopw [15] (fun I wr => ∃ i : Nat, i ≤ 4 ∧ I = .int .i64 i ∧ Hid (Q W5 wr)) (fun I _ => 4 - (intOf I).toNat)
          case atStart => exact ⟨0, by omega, rfl, Lib.hid (Q.refl _)⟩
          case round =>
            obtain ⟨i, hi4, rfl, HQ5⟩ := hrel
            obtain ⟨W6, hW6⟩ : ∃ z, z = wr := ⟨_, rfl⟩
            subst hW6
            by_cases hlt : i < 4
            · have hil1 : (i : Int) < 4 := by omega
              obtain ⟨h1, h2, h3, hlen1, hlen2, hcont⟩ := HHOLD.out i hlt
              obtain ⟨a5, d5, B5, m5, e5, -, -, hat5⟩ := GZ5.out.pick i h1
              obtain ⟨a11, d11, B11, m11, e11, -, -, hat11⟩ := GZ11.out.pick i h2
              obtain ⟨a14, d14, B14, m14, e14, -, -, hat14⟩ := GZ14.out.pick i h3
              injection e5 with e5 e5' e5''
              injection e11 with e11 e11' e11''
              injection e14 with e14 e14' e14''
              have HS1 := Lib.hid (HSMg.out.2 _ (List.getElem_mem h2))
              obtain ⟨bo, hbo⟩ : ∃ x, x = fd.zs[i].b := ⟨_, rfl⟩
              obtain ⟨ba, hba⟩ : ∃ x, x = g.zs[i].b := ⟨_, rfl⟩
              obtain ⟨bg, hbg⟩ : ∃ x, x = cy.zs[i].b := ⟨_, rfl⟩
              rw [← hbo] at hlen1 hcont hat5
              rw [← hba] at hlen2 hcont hat11 HS1
              rw [← hbg] at hlen1 hlen2 hcont hat14
              obtain ⟨lo, hlo⟩ : ∃ x, x = bo.length := ⟨_, rfl⟩
              obtain ⟨la, hla⟩ : ∃ x, x = ba.length := ⟨_, rfl⟩
              obtain ⟨lg, hlg⟩ : ∃ x, x = bg.length := ⟨_, rfl⟩
              rw [← hlo] at hlen1 hcont hat5
              rw [← hla] at hlen2 hat11 HS1
              rw [← hlg] at hlen1 hlen2 hcont hat14
              have HLA := Lib.hid hla
              have HLG := Lib.hid hlg
              have HAT11 : Hid (∀ y, Q W5 y → Blks y y.heap.size (.slice B11 la m11) ba) := Lib.hid (fun y q => (hat11 y q).2.2.2)
              have HAT14 : Hid (∀ y, Q W5 y → Blks y y.heap.size (.slice B14 lg m14) bg) := Lib.hid (fun y q => (hat14 y q).2.2.2)
              have HCONT := Lib.hid hcont
              have r0 := (hat5 W6 HQ5.out).1
              have r1 := (hat11 W6 HQ5.out).1
              have r2 := (hat14 W6 HQ5.out).1
              have hla5 : la ≤ 100000 := HS1.out
              have ll1 : ¬ (lg : Int) < (lo : Int) := by omega
              have ll2 : ¬ (la : Int) < (lg : Int) := by omega
              subst e5 e11 e14
              have s5 := (G5.out.on HQ5.out).cell 0
              have s11 := (G11.out.on HQ5.out).cell 0
              have s14 := (G14.out.on HQ5.out).cell 0
              simp only [List.getElem?_toArray, List.getElem?_cons_zero] at s5 s11 s14
              clear hat5 hat11 hat14 hcont hbo hba hbg hlo hla hlg h1 h2 h3 e5' e5'' e11' e11'' e14' e14''
              go_upto_region 24 with fail
              go_cut [16, 17, 18] from 108 to 125 (fun V16 V17 V18 wx => V16 = .slice B5 lo m5 ∧ V17 = .slice B11 la m11 ∧ V18 = .slice B14 lg m14 ∧ Hid (Q W5 wx))
              case first =>
                go_quiet (fail)
                all_goals (go_wp2_with fail)
                all_goals go_meet
                all_goals exact ⟨rfl, rfl, rfl, Lib.hid (toQ9 HQ5.out ⟨_, rfl⟩)⟩
              case rest =>
              obtain ⟨rfl, rfl, rfl, HQ7⟩ := hcut
              clear r0 r1 r2 s5 s11 s14
              go_wp2_with fail
              go_loopw [19] (fun K wr => ∃ k : Nat, k ≤ lg ∧ K = .int .i64 k ∧ Hid (Q W5 wr)) (fun K _ => lg - (intOf K).toNat)
              case atStart => exact ⟨0, Nat.zero_le _, rfl, HQ7⟩
              case round =>
                obtain ⟨k, hkg, rfl, HQ8⟩ := hrel
                obtain ⟨W7, hW7⟩ : ∃ z, z = wr := ⟨_, rfl⟩
                subst hW7
                by_cases hkl : k < lg
                · have hkl1 : (k : Int) < (lg : Int) := by omega
                  have hkl2 : (k : Int) < (la : Int) := by omega
                  have hkg2 : k < bg.length := by rw [← HLG.out]; exact hkl
                  have hka2 : k < ba.length := by rw [← HLA.out]; omega
                  obtain ⟨Ag, cg, eg, -, -, fg⟩ := HAT14.out W7 HQ8.out
                  obtain ⟨b14, eb14, -, cg14⟩ := fg k hkg2
                  obtain ⟨Aa, ca, ea, -, -, fa⟩ := HAT11.out W7 HQ8.out
                  obtain ⟨b11, eb11, -, ca11⟩ := fa k hka2
                  injection eg with eg eg' eg''
                  injection ea with ea ea' ea''
                  have eB14 : B14 = some b14 := eg.trans eb14
                  have eB11 : B11 = some b11 := ea.trans eb11
                  have hc := HCONT.out k hkl
                  rw [List.getElem?_eq_getElem hkg2, List.getElem?_eq_getElem hka2] at hc
                  simp only [Option.some.injEq] at hc
                  obtain ⟨t1, ht1⟩ : ∃ t, t = bg[k] := ⟨_, rfl⟩
                  obtain ⟨t2, ht2⟩ : ∃ t, t = ba[k] := ⟨_, rfl⟩
                  rw [← ht1] at cg14 hc
                  rw [← ht2] at ca11 hc
                  have HC := Lib.hid hc
                  have lz := (GL.out.on HQ8.out).cell 1
                  simp only [List.getElem?_toArray, List.getElem?_cons_zero, List.getElem?_cons_succ] at lz
                  subst eB14 eB11
                  obtain ⟨T, hT⟩ : ∃ b, b = (decide ((i : Int) = zo) && (decide (k + 1 = lg) && decide (lo ≤ k))) := ⟨_, rfl⟩
                  have HTT := Lib.hid hT
                  clear eg eg' eg'' ea ea' ea'' fg fa eb14 eb11 hc ht1 ht2 hkg2 hka2 hT
                  go_upto_region 30 with fail
                  go_cut [20] from 144 to 160 (fun V wx => V = .bool T ∧ W7 = wx)
                  case first =>
                    by_cases g1 : (i : Int) = zo
                    · have g1' : ((i : Int) == zo) = true := by simpa using g1
                      by_cases g2 : k + 1 = lg
                      · have g2' : ((k : Int) == (lg : Int) - 1) = true := by rw [beq_iff_eq]; omega
                        by_cases g3 : lo ≤ k
                        · have g3' : (lo : Int) ≤ (k : Int) := by omega
                          have hv : Hid (T = true) := Lib.hid (by rw [HTT.out]; simp [g1, g2, g3])
                          clear g1 g2 g3
                          go_wp2_with fail
                          go_meet
                          exact ⟨by rw [hv.out], rfl⟩
                        · have g3' : ¬ (lo : Int) ≤ (k : Int) := by omega
                          have hv : Hid (T = false) := Lib.hid (by rw [HTT.out]; simp [g3])
                          clear g1 g2 g3
                          go_wp2_with fail
                          go_meet
                          exact ⟨by rw [hv.out], rfl⟩
                      · have g2' : ((k : Int) == (lg : Int) - 1) = false := by rw [beq_eq_false_iff_ne]; omega
                        have hv : Hid (T = false) := Lib.hid (by rw [HTT.out]; simp [g2])
                        clear g1 g2
                        go_wp2_with fail
                        go_meet
                        exact ⟨by rw [hv.out], rfl⟩
                    · have g1' : ((i : Int) == zo) = false := by simpa using g1
                      have hv : Hid (T = false) := Lib.hid (by rw [HTT.out]; simp [g1])
                      clear g1
                      go_wp2_with fail
                      go_meet
                      exact ⟨by rw [hv.out], rfl⟩
                  case rest =>
                  obtain ⟨rfl, rfl⟩ := hcut
                  clear lz
                  by_cases he : t1 = t2
                  · have he' : (t1.toList != t2.toList) = false := by rw [he]; simp
                    have he2 : (t1.toList == t2.toList) = true := by rw [he]; simp
                    clear he
                    go_upto_region 31 with fail
                    go_quiet (fail)
                    go_wp2_with fail
                    go_roundw
                    case rel => exact ⟨k + 1, by omega, by go_num, Lib.hid (toQ9 HQ8.out ⟨_, rfl⟩)⟩
                    case measure => simp [intOf]; omega
                  · have hTv : T = true := by
                      rw [HTT.out]
                      rcases HC.out with h | ⟨h1, h2, h3⟩
                      · exact absurd h he
                      · simp [h1, h2, h3]
                    have he2 : (t1.toList == t2.toList) = false := by rw [eq_texts]; simpa using he
                    have he' : (t1.toList != t2.toList) = true := by simp only [bne, he2]; rfl
                    clear he HTT
                    subst hTv
                    go_upto_region 31 with fail
                    go_quiet (fail)
                    go_wp2_with fail
                    go_roundw
                    case rel => exact ⟨k + 1, by omega, by go_num, Lib.hid (toQ9 HQ8.out ⟨_, rfl⟩)⟩
                    case measure => simp [intOf]; omega
                · have hkl1 : ¬ (k : Int) < (lg : Int) := by omega
                  go_wp2_with fail
                  go_roundw
                  case rel => exact ⟨i + 1, by omega, by go_num, HQ8⟩
                  case measure => simp [intOf]; omega
            · have hil1 : ¬ (i : Int) < 4 := by omega
              go_wp2_with fail
              refine (AW.out _).mono ?_
              rintro e v4 ⟨rfl, d4⟩
              go_wp2
              go_ret
              exact ⟨rfl, (GQ.out.trans HQ5.out).trans d4⟩

set_option maxRecDepth 100000 in
theorem lifted (os : Os) (started : os.Started) (H : Type) (enc : TypeId × Value → H) :
    ReturnsInHanded {} Try.checked os 5 .any (Rows.zoneHoldsSpec.pre6 enc Try.prog Try.f5 Rows.zoneHoldsRow.domain false) (Rows.zoneHoldsSpec.post enc Try.prog Try.f5 false true false false) := by
  refine returnsInHanded_of_change (C := Try.checked) own started (by kernel_rfl) Try.func5
    (ChangeSpec.witness6 (enc := enc) (C := Try.checked) false ⟨#[], #[.slice none 0 0, .slice none 0 0, .agg #[.slice none 0 0, .int .i64 0, .int .i64 0]], []⟩ 8 (by kernel_rfl) (by kernel_rfl) (by kernel_rfl) (by kernel_rfl)) ?_
  intro W base args ds gs before hval0 hW hcnd _
  have hval : ∀ (j : Nat) t v, Try.f5.params[j]? = some t → args[j]? = some v → Value.okWide Try.prog W .any base t v := hval0
  have hW' := hW
  obtain ⟨p, q, hA0, hV, rfl, hfz, hnd⟩ := hW
  have hA : DataW.TrodAll enc Try.prog W 0 (fun _ => true) true Try.f5.params.toList args.toList ds p := hA0
  rw [Try.params5] at hA hval
  obtain ⟨v0, vs0, d0, ds0, p0, q0, hargs, rfl, rfl, h0, r0⟩ := trodAll_cons hA
  obtain ⟨v1, vs1, d1, ds1, p1, q1, rfl, rfl, rfl, h1, r1⟩ := trodAll_cons r0
  obtain ⟨v2, vs2, d2, ds2, p2, q2, rfl, rfl, rfl, h2, r2⟩ := trodAll_cons r1
  obtain ⟨rfl, rfl, rfl⟩ := trodAll_nil r2
  obtain rfl : args = #[v0, v1, v2] := by cases args; simp_all
  obtain ⟨rfl, rfl⟩ := trodVars_none hV
  clear hA0 hval0
  simp only [List.append_nil] at hW'
  have hlt : ∀ x ∈ p0 ++ p1 ++ p2, x.block < W.heap.size := fun x hx => by simpa using hW'.lt x (by simpa using hx)
  obtain ⟨l0, t0, z0⟩ := open_acs (hval 0 47 v0 rfl rfl) h0
  obtain ⟨l1, t1, z1⟩ := open_acs (hval 1 47 v1 rfl rfl) h1
  obtain ⟨o2, u2, rfl, t2, y2⟩ := open_ls (hval 2 27 v2 rfl rfl) h2
  refine (walk l0 v0 l1 v1 o2 u2 W t0 z0 t1 z1 t2 y2).mono fun e W' ⟨he, bel⟩ => ?_
  subst he
  refine ⟨_, rfl, _, _, _, [], _, [], hW', trodAll_mk1 (shut_bool Try.underlying4 _), (trodAll_cons_mk (Below.trod laid (by kernel_rfl) (of_decide_eq_true (by kernel_rfl)) h0 bel (fun x hx => hlt x (by simp [hx]))) (trodAll_cons_mk (Below.trod laid (by kernel_rfl) (of_decide_eq_true (by kernel_rfl)) h1 bel (fun x hx => hlt x (by simp [hx]))) (trodAll_cons_mk (Below.trod laid (by kernel_rfl) (of_decide_eq_true (by kernel_rfl)) h2 bel (fun x hx => hlt x (by simp [hx]))) trodAll_mk0))), rfl, Below.frame bel _, fun h => by cases h⟩

theorem over : Rows.zoneHoldsRow.holds Try.pinned (OpenSpec.ofChange Rows.zoneHoldsSpec) :=
  OpenClaim.holds_of_wide 5 Try.f5 rfl rfl rfl rfl rfl rfl rfl ⟨rfl, rfl, rfl, rfl, rfl⟩ rfl rfl rfl rfl rfl (by kernel_rfl) Try.func5 (by kernel_rfl)
    (of_decide_eq_true (by kernel_rfl)) (by unfold Func.isWrapper; first | (rw [if_pos (by decide +kernel)]; kernel_rfl) | (rw [if_neg (by decide +kernel)]; exact ⟨rfl, rfl⟩))
    (fun os started H enc _ => lifted os started H enc)

theorem proved : Rows.ZoneHoldsSaid := over
#print axioms proved
end Go.Proofs.Yteoondmakdghhaa.zoneHolds
