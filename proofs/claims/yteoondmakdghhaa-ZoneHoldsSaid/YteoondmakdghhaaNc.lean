/-
  One operation of a held region taken first, with all that it asks shown by itself; several calls that are ready. Contracts of the program's questions of zones and devices. Contracts of the program's questions of devices: numbersMay, zoneMay, hasZone, May. Contract of the program's May of devices. Rows of zones and of texts as whole blocks: made, copied, read, written. Contracts of the program's apart, refuse and burn.
-/
import Derived.Test.YteoondmakdghhaaNa
import Derived.OrdersHeld
import Derived.Deep.RegionHeld
import Derived.Test.YteoondmakdghhaaNb
import Derived.BigQuiet
import Derived.Laws.CopyOwn
import Derived.Laws.ResultCell
namespace Go.Proofs.Yteoondmakdghhaa
set_option maxRecDepth 100000
open Go.ChangeShapes Go.WideShapes Go.ChangeAt Go.RowKit
set_option linter.unusedVariables false
set_option linter.unusedSimpArgs false
theorem tkV {P : Program} {ops : Array Oper} {Q : Exit → Act → World → Prop} {md : Region.Mode} {S : World → Prop} {G : Prop} (i : Nat) {v : Value} {oi : Oper} {fuel : Nat} {listed : Array Bool} {a : Act} {w : World} (h : G) (hi : ops[i]? = some oi := by rfl)
    (hs : Region.noSelect ops = true := by kernel_rfl) (hf : Region.free md ops listed i = true := by kernel_rfl) (hr : (Region.ready md ops listed).contains i = true := by kernel_rfl) (hw : Region.wanted oi (yielded ops a.tmps) = true := by rfl) (hS : S w := by assumption) (hv : ∀ x, S x → (execOp a.eval oi).run P x = .ok (.value v) x := by (intro wx hSw; (try dsimp only at hSw); go_simp; (try with_reducible rfl))) (hQ : ∀ c a w, Q (.panic c) (a.put oi.dst v) w → Q (.panic c) a w := by exact fun _ _ _ h => h) (hg : wpAnyH P md ops Q S fuel (listed.setIfInBounds i true) (a.put oi.dst v) w = G := by ((try simp only [Act.put, PS]); rfl)) : wpAnyH P md ops Q S (fuel + 1) listed a w :=
  wpAnyH_take hi hs hf hr hQ (Or.inl ⟨hw, hv⟩) hS (Eq.mpr hg h)
theorem tkB {P : Program} {ops : Array Oper} {Q : Exit → Act → World → Prop} {md : Region.Mode} {S : World → Prop} {G : Prop} (i : Nat) (v : Value) {oi : Oper} {fuel : Nat} {listed : Array Bool} {a : Act} {w : World} (h : G) (hi : ops[i]? = some oi := by rfl)
    (hs : Region.noSelect ops = true := by kernel_rfl) (hf : Region.free md ops listed i = true := by kernel_rfl) (hr : (Region.ready md ops listed).contains i = true := by kernel_rfl) (hw : Region.wanted oi (yielded ops a.tmps) = true := by rfl) (hS : S w := by assumption) (hv : ∀ x, S x → (execOp a.eval oi).run P x = .ok (.value v) x := by (intro wx hSw; (try dsimp only at hSw); go_simp; (try omega); (try simp [*]); (try omega))) (hQ : ∀ c a w, Q (.panic c) (a.put oi.dst v) w → Q (.panic c) a w := by exact fun _ _ _ h => h) (hg : wpAnyH P md ops Q S fuel (listed.setIfInBounds i true) (a.put oi.dst v) w = G := by ((try simp only [Act.put, PS]); rfl)) : wpAnyH P md ops Q S (fuel + 1) listed a w :=
  wpAnyH_take hi hs hf hr hQ (Or.inl ⟨hw, hv⟩) hS (Eq.mpr hg h)
theorem tkU {P : Program} {ops : Array Oper} {Q : Exit → Act → World → Prop} {md : Region.Mode} {S : World → Prop} {G : Prop} (i : Nat) {oi : Oper} {fuel : Nat} {listed : Array Bool} {a : Act} {w : World} (h : G) (hi : ops[i]? = some oi := by rfl)
    (hs : Region.noSelect ops = true := by kernel_rfl) (hf : Region.free md ops listed i = true := by kernel_rfl) (hr : (Region.ready md ops listed).contains i = true := by kernel_rfl) (hw : Region.wanted oi (yielded ops a.tmps) = false := by rfl) (hS : S w := by assumption) (hQ : ∀ c a w, Q (.panic c) (a.put oi.dst undef) w → Q (.panic c) a w := by exact fun _ _ _ h => h) (hg : wpAnyH P md ops Q S fuel (listed.setIfInBounds i true) (a.put oi.dst undef) w = G := by ((try simp only [Act.put, PS]); rfl)) : wpAnyH P md ops Q S (fuel + 1) listed a w :=
  wpAnyH_take hi hs hf hr hQ (Or.inr ⟨hw, rfl⟩) hS (Eq.mpr hg h)
theorem aR {P : Program} {ops : Array Oper} {Q : Exit → Act → World → Prop} {md : Region.Mode} {S : World → Prop} {fuel : Nat} {listed : Array Bool} {a : Act} {w : World} (rs : List Nat) (h : AllReadyH P md ops Q S fuel listed a w rs) (hr : Region.ready md ops listed = rs := by kernel_rfl) (hne : rs ≠ [] := by simp) : wpAnyH P md ops Q S (fuel + 1) listed a w := wpAnyH_ready hr hne h
theorem pg {A G : Prop} (h : G) (hg : A = G := by ((try simp only [Act.put, PS]); rfl)) : A := Eq.mpr hg h
end Go.Proofs.Yteoondmakdghhaa

namespace Go.Proofs.Yteoondmakdghhaa
set_option maxRecDepth 100000
open Go.ChangeShapes Go.WideShapes Go.ChangeAt Go.RowKit
set_option linter.unusedVariables false
set_option linter.unusedSimpArgs false
set_option maxRecDepth 100000
def znV (z : Zn) (u : Value) : Value := .agg #[u, .int .i64 z.firm, .bool z.full]
def emptyZ (z : Zn) : Bool := decide (z.b.length = 0) && !z.full
def filledZ (n : Int) (z : Zn) : Bool := if z.b.length = 0 then !z.full else if (z.b.length : Int) = n then z.full else true
set_option maxHeartbeats 4000000 in
theorem empZ_any (z : Zn) (A : Option Addr) (c : Nat) (w : World) : Calls Try.prog 38 #[znV z (.slice A z.b.length c)] w fun e w' => e = .returned (.bool (emptyZ z)) ∧ Q w w' := by
  rw [znV]
  have q0 := (Q.refl w).alloc (.cells #[.slice A z.b.length c, .int .i64 z.firm, .bool z.full] 45)
  by_cases h : z.b.length = 0
  · have HV : Hid ((!z.full) = emptyZ z) := Lib.hid (by simp [emptyZ, h])
    generalize z.b.length = K at h q0 ⊢
    subst h
    go_enter Try.func38, Try.ntmps38
    go_wp2
    go_ret
    exact ⟨by rw [← HV.out]; first | rfl | simp, q0⟩
  · have HV : Hid (false = emptyZ z) := Lib.hid (by simp [emptyZ, h])
    have h' : ((z.b.length : Int) == 0) = false := by rw [beq_eq_false_iff_ne]; omega
    have h2 : decide (z.b.length = 0) = false := by simpa using h
    go_enter Try.func38, Try.ntmps38
    go_wp2
    go_ret
    exact ⟨by rw [← HV.out]; rfl, q0⟩
set_option maxHeartbeats 4000000 in
theorem opnZ_any (z : Zn) (A : Option Addr) (c : Nat) (w : World) : Calls Try.prog 41 #[znV z (.slice A z.b.length c)] w fun e w' => e = .returned (.bool (isOpen z)) ∧ Q w w' := by
  rw [znV]
  have q0 := (Q.refl w).alloc (.cells #[.slice A z.b.length c, .int .i64 z.firm, .bool z.full] 45)
  by_cases h : 0 < z.b.length
  · have HV : Hid ((!z.full) = isOpen z) := Lib.hid (by simp [isOpen, h])
    have h' : (0 : Int) < (z.b.length : Int) := by omega
    go_enter Try.func41, Try.ntmps41
    go_wp2
    go_ret
    exact ⟨by rw [← HV.out]; first | rfl | simp, q0⟩
  · have HV : Hid (false = isOpen z) := Lib.hid (by simp [isOpen, h])
    have h' : ¬ (0 : Int) < (z.b.length : Int) := by omega
    have h2 : decide (0 < z.b.length) = false := by simpa using h
    go_enter Try.func41, Try.ntmps41
    go_wp2
    go_ret
    exact ⟨by rw [← HV.out]; rfl, q0⟩
set_option maxHeartbeats 4000000 in
theorem filZ_any (z : Zn) (n : Int) (A : Option Addr) (c : Nat) (w : World) : Calls Try.prog 45 #[znV z (.slice A z.b.length c), .int .i64 n] w fun e w' => e = .returned (.bool (filledZ n z)) ∧ Q w w' := by
  rw [znV]
  have q0 := (Q.refl w).alloc (.cells #[.slice A z.b.length c, .int .i64 z.firm, .bool z.full] 45)
  by_cases h : z.b.length = 0
  · have HV : Hid ((!z.full) = filledZ n z) := Lib.hid (by simp [filledZ, h])
    generalize z.b.length = K at h q0 ⊢
    subst h
    go_enter Try.func45, Try.ntmps45
    go_wp2
    go_ret
    exact ⟨by rw [← HV.out]; first | rfl | simp, q0⟩
  · have h' : ((z.b.length : Int) == 0) = false := by rw [beq_eq_false_iff_ne]; omega
    have h2 : decide (z.b.length = 0) = false := by simpa using h
    by_cases k : (z.b.length : Int) = n
    · have HV : Hid (z.full = filledZ n z) := Lib.hid (by simp [filledZ, h, k])
      have k2 : ((z.b.length : Int) == n) = true := by simpa using k
      clear h k
      go_enter Try.func45, Try.ntmps45
      go_wp2
      go_ret
      exact ⟨by rw [← HV.out]; first | rfl | simp, q0⟩
    · have HV : Hid (true = filledZ n z) := Lib.hid (by simp [filledZ, h, k])
      have k2 : ((z.b.length : Int) == n) = false := by simpa using k
      clear h
      go_enter Try.func45, Try.ntmps45
      go_wp2
      go_ret
      exact ⟨by rw [← HV.out]; rfl, q0⟩
set_option maxHeartbeats 4000000 in
theorem opened_any (l : List Zn) (v : Value) (w : World) (hl : l.length ≤ 100000) (ht : Zns w w.heap.size v l) :
    Calls Try.prog 35 #[v] w fun e w' => e = .returned (.int .i64 (openN l : Nat)) ∧ Q w w' := by
  obtain ⟨A0, c0, rfl⟩ := ht.form
  have HT := Lib.hid ht
  clear ht
  go_enter Try.func35, Try.ntmps35
  go_wp2_with fail
  go_loopw [3, 8] (fun N I wr => ∃ i m : Nat, i ≤ l.length ∧ I = .int .i64 i ∧ N = .int .i64 m ∧ Hid (m = openN (l.take i)) ∧ m ≤ i ∧ Q w wr) (fun _ I _ => l.length - (intOf I).toNat)
  case atStart => exact ⟨0, 0, Nat.zero_le _, rfl, rfl, Lib.hid rfl, Nat.le_refl _, Q.refl _⟩
  case round =>
    obtain ⟨i, m, hil, rfl, rfl, HM, hmi, q⟩ := hrel
    by_cases hlt : i < l.length
    · obtain ⟨a, c1, A1, n1, e1, ha, -, hat⟩ := HT.out.pick i hlt
      injection e1 with e1 e2 e3
      subst e1 e3
      obtain ⟨z0, z1, z2, -⟩ := hat wr q
      have HS := Lib.hid (openN_take l i hlt)
      obtain ⟨y, hy⟩ : ∃ y, y = l[i] := ⟨_, rfl⟩
      rw [← hy] at z0 z1 z2 HS
      clear hat hy
      have C := Lib.hid (opnZ_any y A1 n1)
      rw [znV] at C
      have hilt : (i : Int) < (l.length : Int) := by omega
      have q1 : Q w (wr.alloc (.cells #[.slice A1 y.b.length n1, .int .i64 y.firm, .bool y.full] 45)) := q.alloc _
      cases hf : isOpen y with
      | true =>
        have HN : Hid (m + 1 = openN (l.take (i + 1))) := Lib.hid (by rw [HS.out, ← HM.out]; simp [hf])
        rw [hf] at C
        clear hf HS
        go_wp2_with fail
        refine (C.out _).mono ?_
        rintro e w1 ⟨rfl, d1⟩
        go_wp2
        go_roundw
        case rel => exact ⟨i + 1, m + 1, by omega, by go_num, by go_num, HN, by omega, q1.trans d1⟩
        case measure => simp [intOf]; omega
      | false =>
        have HN : Hid (m = openN (l.take (i + 1))) := Lib.hid (by rw [HS.out, ← HM.out]; simp [hf])
        rw [hf] at C
        clear hf HS
        go_wp2_with fail
        refine (C.out _).mono ?_
        rintro e w1 ⟨rfl, d1⟩
        go_wp2
        go_roundw
        case rel => exact ⟨i + 1, m, by omega, by go_num, rfl, HN, by omega, q1.trans d1⟩
        case measure => simp [intOf]; omega
    · obtain rfl : i = l.length := by omega
      have hilt : ¬ (l.length : Int) < (l.length : Int) := by omega
      have HV : Hid (m = openN l) := Lib.hid (by rw [HM.out, List.take_length])
      go_wp2
      go_ret
      exact ⟨by rw [← HV.out]; rfl, q⟩
end Go.Proofs.Yteoondmakdghhaa

namespace Go.Proofs.Yteoondmakdghhaa
set_option maxRecDepth 100000
open Go.ChangeShapes Go.WideShapes Go.ChangeAt Go.RowKit
set_option linter.unusedVariables false
set_option linter.unusedSimpArgs false
set_option maxRecDepth 100000
theorem okZn_filled {n : Int} (hn : 1 ≤ n) (z : Zn) : okZn n z = (frontZ n z && filledZ n z && z.b.all sz64) := by
  rw [okZn_front]
  unfold filledZ
  by_cases h : z.b.length = 0
  · have h2 : ¬ (0 : Int) = n := by omega
    rw [if_pos h, h]
    simp [h2]
    cases frontZ n z <;> cases z.full <;> simp
  · rw [if_neg h]
    by_cases k : (z.b.length : Int) = n
    · rw [if_pos k]; simp [h, k]; cases frontZ n z <;> cases z.full <;> simp
    · rw [if_neg k]; simp [h, k]
set_option maxHeartbeats 8000000 in
theorem nums_any (d : Dv) (A0 : Option Addr) (c0 : Nat) (w : World) : Calls Try.prog 33 #[dvV d (.slice A0 d.zs.length c0)] w fun e w' => e = .returned (.bool (headD d)) ∧ Q w w' := by
  obtain ⟨zs, size, mo, fuel, off, bad⟩ := d
  rw [dvV]
  have HH : Hid (headD ⟨zs, size, mo, fuel, off, bad⟩ = (decide (1 ≤ zs.length) && (decide (zs.length ≤ 40) && (decide (1 ≤ size) && (decide (size ≤ 300) && (decide (1 ≤ mo) && (decide (-1 ≤ fuel) && decide (0 ≤ bad)))))))) := Lib.hid rfl
  simp only at HH ⊢
  generalize headD ⟨zs, size, mo, fuel, off, bad⟩ = G at HH ⊢
  generalize zs.length = n at HH ⊢
  have q0 := (Q.refl w).alloc (.cells #[.slice A0 n c0, .int .i64 size, .int .i64 mo, .int .i64 fuel, .bool off, .int .i64 bad] 24)
  by_cases h0 : 1 ≤ n
  · have j0 : ¬ (n : Int) < 1 := by omega
    by_cases h1 : n ≤ 40
    · have j1 : ¬ (40 : Int) < (n : Int) := by omega
      by_cases h2 : 1 ≤ size
      · have j2 : ¬ size < 1 := by omega
        by_cases h3 : size ≤ 300
        · have j3 : ¬ 300 < size := by omega
          by_cases h4 : 1 ≤ mo
          · have j4 : 1 ≤ mo := by omega
            by_cases h5 : -1 ≤ fuel
            · have j5 : -1 ≤ fuel := by omega
              by_cases h6 : 0 ≤ bad
              · have j6 : 0 ≤ bad := by omega
                have HG : Hid (G = true) := Lib.hid (by rw [HH.out]; simp [*])
                clear h0 h1 h2 h3 h4 h5 h6
                go_enter Try.func33, Try.ntmps33
                go_wp2
                go_ret
                exact ⟨by rw [HG.out]; rfl, q0⟩
              · have j6 : ¬ 0 ≤ bad := by omega
                have HG : Hid (G = false) := Lib.hid (by rw [HH.out]; simp [*])
                clear h0 h1 h2 h3 h4 h5 h6
                go_enter Try.func33, Try.ntmps33
                go_wp2
                go_ret
                exact ⟨by rw [HG.out]; rfl, q0⟩
            · have j5 : ¬ -1 ≤ fuel := by omega
              have HG : Hid (G = false) := Lib.hid (by rw [HH.out]; simp [*])
              clear h0 h1 h2 h3 h4 h5
              go_enter Try.func33, Try.ntmps33
              go_wp2
              go_ret
              exact ⟨by rw [HG.out]; rfl, q0⟩
          · have j4 : ¬ 1 ≤ mo := by omega
            have HG : Hid (G = false) := Lib.hid (by rw [HH.out]; simp [*])
            clear h0 h1 h2 h3 h4
            go_enter Try.func33, Try.ntmps33
            go_wp2
            go_ret
            exact ⟨by rw [HG.out]; rfl, q0⟩
        · have j3 : 300 < size := by omega
          have HG : Hid (G = false) := Lib.hid (by rw [HH.out]; simp [*])
          clear h0 h1 h2 h3
          go_enter Try.func33, Try.ntmps33
          go_wp2
          go_ret
          exact ⟨by rw [HG.out]; rfl, q0⟩
      · have j2 : size < 1 := by omega
        have HG : Hid (G = false) := Lib.hid (by rw [HH.out]; simp [*])
        clear h0 h1 h2
        go_enter Try.func33, Try.ntmps33
        go_wp2
        go_ret
        exact ⟨by rw [HG.out]; rfl, q0⟩
    · have j1 : (40 : Int) < (n : Int) := by omega
      have HG : Hid (G = false) := Lib.hid (by rw [HH.out]; simp [*])
      clear h0 h1
      go_enter Try.func33, Try.ntmps33
      go_wp2
      go_ret
      exact ⟨by rw [HG.out]; rfl, q0⟩
  · have j0 : (n : Int) < 1 := by omega
    have HG : Hid (G = false) := Lib.hid (by rw [HH.out]; simp [*])
    clear h0
    go_enter Try.func33, Try.ntmps33
    go_wp2
    go_ret
    exact ⟨by rw [HG.out]; rfl, q0⟩
set_option maxHeartbeats 4000000 in
theorem hasZ_any (d : Dv) (z : Int) (A0 : Option Addr) (c0 : Nat) (w : World) : Calls Try.prog 25 #[dvV d (.slice A0 d.zs.length c0), .int .i64 z] w fun e w' => e = .returned (.bool (decide (hasZ d z))) ∧ Q w w' := by
  obtain ⟨zs, size, mo, fuel, off, bad⟩ := d
  rw [dvV]
  have HH : Hid ((decide (hasZ ⟨zs, size, mo, fuel, off, bad⟩ z)) = (decide (0 ≤ z) && decide (z < (zs.length : Int)))) := Lib.hid (by unfold hasZ; exact Bool.decide_and _ _)
  simp only at HH ⊢
  generalize decide (hasZ ⟨zs, size, mo, fuel, off, bad⟩ z) = G at HH ⊢
  generalize zs.length = n at HH ⊢
  have q0 := (Q.refl w).alloc (.cells #[.slice A0 n c0, .int .i64 size, .int .i64 mo, .int .i64 fuel, .bool off, .int .i64 bad] 24)
  by_cases h0 : 0 ≤ z
  · by_cases h1 : z < (n : Int)
    · have HG : Hid (G = true) := Lib.hid (by rw [HH.out]; simp [*])
      go_enter Try.func25, Try.ntmps25
      go_wp2
      go_ret
      exact ⟨by rw [HG.out]; rfl, q0⟩
    · have HG : Hid (G = false) := Lib.hid (by rw [HH.out]; simp [*])
      go_enter Try.func25, Try.ntmps25
      go_wp2
      go_ret
      exact ⟨by rw [HG.out]; rfl, q0⟩
  · have HG : Hid (G = false) := Lib.hid (by rw [HH.out]; simp [*])
    go_enter Try.func25, Try.ntmps25
    go_wp2
    go_ret
    exact ⟨by rw [HG.out]; rfl, q0⟩
set_option maxHeartbeats 8000000 in
theorem zoneMay_any (z : Zn) (n : Int) (v : Value) (w : World) (hn : 1 ≤ n) (hl : z.b.length ≤ 100000) (ht : Blks w w.heap.size v z.b) : Calls Try.prog 34 #[znV z v, .int .i64 n] w fun e w' => e = .returned (.bool (okZn n z)) ∧ Q w w' := by
  obtain ⟨A, c, rfl⟩ := ht.form
  have HT := Lib.hid ht
  clear ht
  have CF := Lib.hid (fun (x : World) => filZ_any z n A c x)
  have HO := Lib.hid (okZn_filled hn z)
  generalize okZn n z = G at HO ⊢
  generalize filledZ n z = F at HO CF
  obtain ⟨bs, firm, full⟩ := z
  rw [znV] at CF ⊢
  simp only at hl HT CF HO ⊢
  have q0 := (Q.refl w).alloc (.cells #[.slice A bs.length c, .int .i64 firm, .bool full] 45)
  have HF : Hid (frontZ n ⟨bs, firm, full⟩ = (decide ((bs.length : Int) ≤ n) && (decide (0 ≤ firm) && decide (firm ≤ bs.length)))) := Lib.hid rfl
  generalize frontZ n ⟨bs, firm, full⟩ = R at HF HO
  by_cases h0 : (bs.length : Int) ≤ n
  · have j0 : ¬ n < (bs.length : Int) := by omega
    by_cases h1 : 0 ≤ firm
    · have j1 : ¬ firm < 0 := by omega
      by_cases h2 : firm ≤ (bs.length : Int)
      · have j2 : ¬ (bs.length : Int) < firm := by omega
        have HR : Hid (R = true) := Lib.hid (by rw [HF.out]; simp [*])
        cases F with
        | false =>
          have HG : Hid (G = false) := Lib.hid (by rw [HO.out]; simp)
          go_enter Try.func34, Try.ntmps34
          go_wp2_with fail
          refine (CF.out _).mono ?_
          rintro e w1 ⟨rfl, d1⟩
          go_wp2
          go_ret
          exact ⟨by rw [HG.out]; rfl, q0.trans d1⟩
        | true =>
          have HG : Hid (G = bs.all sz64) := Lib.hid (by rw [HO.out, HR.out]; simp)
          clear h0 h1 h2
          go_enter Try.func34, Try.ntmps34
          go_wp2_with fail
          refine (CF.out _).mono ?_
          rintro e w1 ⟨rfl, d1⟩
          have q1 := q0.trans d1
          clear q0
          have b0 : w1.cell? ⟨w.heap.size, 0, none⟩ = some (.slice A bs.length c) := ((Bx.new w 45 #[.slice A bs.length c, .int .i64 firm, .bool full]).on d1).cell 0
          go_wp2_with fail
          go_loopw [34] (fun I wr => ∃ i : Nat, i ≤ bs.length ∧ I = .int .i64 i ∧ Hid ((bs.take i).all sz64 = true) ∧ Q w wr) (fun I _ => bs.length - (intOf I).toNat)
          case atStart => exact ⟨0, Nat.zero_le _, rfl, Lib.hid rfl, q1⟩
          case round =>
            obtain ⟨i, hil, rfl, HS, q⟩ := hrel
            clear q1 b0
            by_cases hlt : i < bs.length
            · obtain ⟨A', c', e1, -, -, f⟩ := HT.out
              injection e1 with e1 e2 e3
              subst e1 e3
              obtain ⟨a, rfl, ha, hc⟩ := f i hlt
              have z0 : wr.cell? (a.add i) = some (.string bs[i]) := (q.cell (by rw [add_block]; exact ha)).trans hc
              have HN := Lib.hid (all_take sz64 bs i hlt)
              have HB : Hid (bs[i] ∈ bs) := Lib.hid (List.getElem_mem hlt)
              obtain ⟨s, hs⟩ : ∃ s, s = bs[i] := ⟨_, rfl⟩
              rw [← hs] at z0 HN HB
              clear f hc hs
              have hilt : (i : Int) < (bs.length : Int) := by omega
              by_cases h64 : s.size = 64
              · have H2 : Hid ((bs.take (i + 1)).all sz64 = true) := Lib.hid (by rw [HN.out, HS.out]; simp [sz64, h64])
                have k64 : ((s.size : Int) != 64) = false := by simp; omega
                clear h64
                go_wp2_with fail
                go_roundw
                case rel => exact ⟨i + 1, by omega, by go_num, H2, q⟩
                case measure => simp [intOf]; omega
              · have HV : Hid (G = false) := Lib.hid (by
                  rw [HG.out, List.all_eq_false]
                  exact ⟨s, HB.out, by simp [sz64, h64]⟩)
                have k64 : ((s.size : Int) != 64) = true := by simp; omega
                clear h64
                go_wp2
                go_ret
                exact ⟨by rw [HV.out]; rfl, q⟩
            · obtain rfl : i = bs.length := by omega
              have hilt : ¬ (bs.length : Int) < (bs.length : Int) := by omega
              have HV : Hid (G = true) := Lib.hid (by rw [HG.out]; have := HS.out; rwa [List.take_length] at this)
              go_wp2
              go_ret
              exact ⟨by rw [HV.out]; rfl, q⟩
      · have j2 : (bs.length : Int) < firm := by omega
        have HR : Hid (R = false) := Lib.hid (by rw [HF.out]; simp [*])
        have HG : Hid (G = false) := Lib.hid (by rw [HO.out, HR.out]; simp)
        go_enter Try.func34, Try.ntmps34
        go_wp2
        go_ret
        exact ⟨by rw [HG.out]; rfl, q0⟩
    · have j1 : firm < 0 := by omega
      have HR : Hid (R = false) := Lib.hid (by rw [HF.out]; simp [*])
      have HG : Hid (G = false) := Lib.hid (by rw [HO.out, HR.out]; simp)
      go_enter Try.func34, Try.ntmps34
      go_wp2
      go_ret
      exact ⟨by rw [HG.out]; rfl, q0⟩
  · have j0 : n < (bs.length : Int) := by omega
    have HR : Hid (R = false) := Lib.hid (by rw [HF.out]; simp [*])
    have HG : Hid (G = false) := Lib.hid (by rw [HO.out, HR.out]; simp)
    go_enter Try.func34, Try.ntmps34
    go_wp2
    go_ret
    exact ⟨by rw [HG.out]; rfl, q0⟩
end Go.Proofs.Yteoondmakdghhaa

namespace Go.Proofs.Yteoondmakdghhaa
set_option maxRecDepth 100000
open Go.ChangeShapes Go.WideShapes Go.ChangeAt Go.RowKit
set_option linter.unusedVariables false
set_option linter.unusedSimpArgs false
set_option maxRecDepth 100000
/-- A device that is small enough to be looked at. -/
def smD (d : Dv) : Prop := d.zs.length ≤ 100000 ∧ ∀ z ∈ d.zs, z.b.length ≤ 100000
set_option maxHeartbeats 8000000 in
theorem mayZ_any (d : Dv) (u : Value) (w : World) (hd : smD d) (ht : Zns w w.heap.size u d.zs) : Calls Try.prog 21 #[dvV d u] w fun e w' => e = .returned (.bool (mayD d)) ∧ Q w w' := by
  obtain ⟨A0, c0, rfl⟩ := ht.form
  have HT := Lib.hid ht
  have CN := Lib.hid (fun x => nums_any d A0 c0 x)
  have HM := Lib.hid (mayD_head d)
  have HN : Hid (headD d = true → 1 ≤ d.size) := Lib.hid (fun h => by unfold headD at h; simp at h; omega)
  have CO := Lib.hid (fun (x : World) (q : Q w x) => opened_any d.zs _ x hd.1 (ht.on q))
  have HL := Lib.hid hd.2
  obtain ⟨hl, -⟩ := hd
  clear ht
  generalize mayD d = G at HM ⊢
  generalize headD d = B at HM HN CN
  obtain ⟨zs, size, mo, fuel, off, bad⟩ := d
  rw [dvV] at CN ⊢
  simp only at hl HT CN HM HN CO HL ⊢
  have bx := Bx.new w 24 #[.slice A0 zs.length c0, .int .i64 size, .int .i64 mo, .int .i64 fuel, .bool off, .int .i64 bad]
  have q0 := (Q.refl w).alloc (.cells #[.slice A0 zs.length c0, .int .i64 size, .int .i64 mo, .int .i64 fuel, .bool off, .int .i64 bad] 24)
  obtain ⟨W0, hW0⟩ : ∃ z, z = w.alloc (.cells #[.slice A0 zs.length c0, .int .i64 size, .int .i64 mo, .int .i64 fuel, .bool off, .int .i64 bad] 24) := ⟨_, rfl⟩
  rw [← hW0] at bx q0
  have BX := Lib.hid bx
  have Q0 := Lib.hid q0
  obtain ⟨x0, x1, x2, x3, x4, x5⟩ : W0.cell? ⟨w.heap.size, 0, none⟩ = some (.slice A0 zs.length c0) ∧ W0.cell? ⟨w.heap.size, 1, none⟩ = some (.int .i64 size) ∧ W0.cell? ⟨w.heap.size, 2, none⟩ = some (.int .i64 mo) ∧ W0.cell? ⟨w.heap.size, 3, none⟩ = some (.int .i64 fuel) ∧ W0.cell? ⟨w.heap.size, 4, none⟩ = some (.bool off) ∧ W0.cell? ⟨w.heap.size, 5, none⟩ = some (.int .i64 bad) := ⟨bx.cell 0, bx.cell 1, bx.cell 2, bx.cell 3, bx.cell 4, bx.cell 5⟩
  clear bx q0
  go_enter Try.func21, Try.ntmps21
  go_upto_region 1 with fail
  rw [← hW0]
  clear hW0
  go_wp2_with fail
  refine (CN.out _).mono ?_
  rintro e w1 ⟨rfl, d1⟩
  clear x1 x2 x3 x4 x5
  cases B with
  | false =>
    have HG : Hid (G = false) := Lib.hid (by rw [HM.out]; simp)
    go_wp2
    go_ret
    exact ⟨by rw [HG.out]; rfl, Q0.out.trans d1⟩
  | true =>
    have hn := HN.out rfl
    have x0 : w1.cell? ⟨w.heap.size, 0, none⟩ = some (.slice A0 zs.length c0) := (BX.out.on d1).cell 0
    go_wp2_with fail
    go_loopw [11] (fun I wr => ∃ i : Nat, i ≤ zs.length ∧ I = .int .i64 i ∧ Hid ((zs.take i).all (okZn size) = true) ∧ Q W0 wr) (fun I _ => zs.length - (intOf I).toNat)
    case atStart => exact ⟨0, Nat.zero_le _, rfl, Lib.hid rfl, d1⟩
    case round =>
      obtain ⟨i, hil, rfl, HS, q⟩ := hrel
      clear d1 x0
      have x1 : wr.cell? ⟨w.heap.size, 1, none⟩ = some (.int .i64 size) := (BX.out.on q).cell 1
      by_cases hlt : i < zs.length
      · obtain ⟨a, c1, A1, n1, e1, ha, -, hat⟩ := HT.out.pick i hlt
        injection e1 with e1 e2 e3
        subst e1 e3
        obtain ⟨z0, z1, z2, zb⟩ := hat wr (Q0.out.trans q)
        have HA := Lib.hid (all_take (okZn size) zs i hlt)
        have hy2 := HL.out _ (List.getElem_mem hlt)
        have HB : Hid (zs[i] ∈ zs) := Lib.hid (List.getElem_mem hlt)
        obtain ⟨y, hy⟩ : ∃ y, y = zs[i] := ⟨_, rfl⟩
        rw [← hy] at z0 z1 z2 zb HA hy2 HB
        clear hat hy
        have hilt : (i : Int) < (zs.length : Int) := by omega
        obtain ⟨wa, hwa⟩ : ∃ x, x = wr.alloc (.cells #[.slice A1 y.b.length n1, .int .i64 y.firm, .bool y.full] 45) := ⟨_, rfl⟩
        have qa : Q wr wa := by rw [hwa]; exact (Q.refl wr).alloc _
        have ba := Bx.new wr 45 #[.slice A1 y.b.length n1, .int .i64 y.firm, .bool y.full]
        rw [← hwa] at ba
        have C := Lib.hid (zoneMay_any y size _ wa hn hy2 (zb.on qa))
        rw [znV] at C
        obtain ⟨y0, y1, y2⟩ : wa.cell? ⟨wr.heap.size, 0, none⟩ = some (.slice A1 y.b.length n1) ∧ wa.cell? ⟨wr.heap.size, 1, none⟩ = some (.int .i64 y.firm) ∧ wa.cell? ⟨wr.heap.size, 2, none⟩ = some (.bool y.full) := ⟨ba.cell 0, ba.cell 1, ba.cell 2⟩
        have x1a : wa.cell? ⟨w.heap.size, 1, none⟩ = some (.int .i64 size) := (BX.out.on (q.trans qa)).cell 1
        have QA := Lib.hid qa
        clear zb hy2 qa ba
        rw [hwa] at C y0 y1 y2 x1a QA
        clear hwa wa
        cases hf : okZn size y with
        | true =>
          have HN2 : Hid ((zs.take (i + 1)).all (okZn size) = true) := Lib.hid (by rw [HA.out, HS.out, hf]; rfl)
          rw [hf] at C
          clear hf HA
          go_wp2_with fail
          refine (C.out).mono ?_
          rintro e w2 ⟨rfl, d2⟩
          go_wp2
          go_roundw
          case rel => exact ⟨i + 1, by omega, by go_num, HN2, (q.trans QA.out).trans d2⟩
          case measure => simp [intOf]; omega
        | false =>
          have HG : Hid (G = false) := Lib.hid (by
            rw [HM.out]
            have : zs.all (okZn size) = false := List.all_eq_false.2 ⟨y, HB.out, by rw [hf]; decide⟩
            rw [this]; simp)
          rw [hf] at C
          clear hf HA
          go_wp2_with fail
          refine (C.out).mono ?_
          rintro e w2 ⟨rfl, d2⟩
          go_wp2
          go_ret
          exact ⟨by rw [HG.out]; rfl, Q0.out.trans ((q.trans QA.out).trans d2)⟩
      · obtain rfl : i = zs.length := by omega
        have hilt : ¬ (zs.length : Int) < (zs.length : Int) := by omega
        have x0 : wr.cell? ⟨w.heap.size, 0, none⟩ = some (.slice A0 zs.length c0) := (BX.out.on q).cell 0
        have x2 : wr.cell? ⟨w.heap.size, 2, none⟩ = some (.int .i64 mo) := (BX.out.on q).cell 2
        have HG : Hid (G = decide ((openN zs : Int) ≤ mo)) := Lib.hid (by rw [HM.out]; have := HS.out; rw [List.take_length] at this; rw [this]; rfl)
        generalize openN zs = K at HG CO
        clear HM x1
        have q9 := Q0.out.trans q
        have KS : Hid (∀ x, Q W0 x → (fun W => W.cell? ⟨w.heap.size, 0, none⟩ = some (.slice A0 zs.length c0) ∧ W.cell? ⟨w.heap.size, 2, none⟩ = some (.int .i64 mo)) x) := Lib.hid (fun x q => ⟨(BX.out.on q).cell 0, (BX.out.on q).cell 2⟩)
        go_upto_region 9 with fail
        clear x0 x2
        have q5 := q.drew
        refine wp_region_held_drew (S := fun W => W.cell? ⟨w.heap.size, 0, none⟩ = some (.slice A0 zs.length c0) ∧ W.cell? ⟨w.heap.size, 2, none⟩ = some (.int .i64 mo)) (by kernel_rfl) (KS.out _ q5) (fun hHeld => ?_)
        refine tkV 0 ?_
        refine tkV 1 ?_
        refine tkV 3 ?_
        refine tkV 4 ?_
        refine aR [2] ?_
        refine AllReadyH.cons (o := _) rfl (fun K_ hK => ?_) AllReadyH.nil
        go_simp
        go_at_call 35
        refine (CO.out _ (Q0.out.trans q5)).mono ?_
        rintro e w5 ⟨rfl, d5⟩
        have q6 := q5.trans d5
        refine hK.out _ _ (KS.out _ q6) (fun hHeld2 => ?_)
        clear hK K_
        refine pg ?_
        refine tkB 5 (.bool (decide ((K : Int) ≤ mo))) ?_
        refine tkB 6 (.bool (decide ((K : Int) ≤ mo))) ?_
        refine wpAnyH_done (by kernel_rfl) ?_ _
        go_wp2
        go_ret
        exact ⟨by rw [HG.out]; rfl, Q0.out.trans q6⟩
end Go.Proofs.Yteoondmakdghhaa

namespace Go.Proofs.Yteoondmakdghhaa
set_option maxRecDepth 100000
open Go.ChangeShapes Go.WideShapes Go.ChangeAt Go.RowKit
set_option linter.unusedVariables false
set_option linter.unusedSimpArgs false
set_option maxRecDepth 100000
/-- 'make([]T, n)': a whole block. -/
theorem wpList_make_bx (w : World) {ops : Array Oper} {rest : List Oper} {o : Oper} {a : Act} {Q' : Exit → Act → World → Prop}
    (hg : o.guard = none) (l c : Operand) (t : TypeId) (hop : o.op = Op.makeSlice t l c)
    (e : TypeId) (z : Value) (size bytes : Nat) (h1 : Try.prog.underlying t = some (.slice e)) (h2 : (Try.prog.info? e).map (fun i => (i.zero, i.size, i.bytes)) = some (some z, size, bytes))
    (kl kc : IntKind) (L C : Int) (n : Nat) (hl : a.eval l = .int kl L) (hc : a.eval c = .int kc C) (hL : L = (n : Int)) (hC : C = (n : Int)) (b2 : bytes * n ≤ 281474976710656) (b3 : n ≤ maxLen)
    (hK : ∀ w', Hid (Bx w' w.heap.size e (madeCells z.cells (n * size))) → Hid (Q w w') → Hid (w'.heap.size = w.heap.size + 1) → wpList Try.prog ops Q' rest (a.put o.dst (.slice (some ⟨w.heap.size, 0, none⟩) n n)) w') :
    wpList Try.prog ops Q' (o :: rest) a w := by
  refine wpList_plain hg fun K hK' => ?_
  obtain ⟨i0, hi0, hz0, hz1, hz2⟩ := info_parts h2
  have hb : (i0.bytes : Int) * (n : Int) ≤ 281474976710656 := by
    have : ((bytes * n : Nat) : Int) ≤ 281474976710656 := by omega
    rw [hz2]; rwa [Int.natCast_mul] at this
  have hr := run_make (P := Try.prog) w t e i0 z h1 hi0 hz0 kl kc n n (by omega) (Int.le_refl _) hb (by unfold maxLen at b3; omega)
  simp only [Int.toNat_natCast, hz1] at hr
  subst hL hC
  unfold Oper.wp
  simp [execOp, hop, hl, hc, hr, Result.andThen]
  exact hK' _ _ (hK _ (Lib.hid (Bx.new _ _ _)) (Lib.hid ((Q.refl w).alloc _)) (Lib.hid (by simp)))
theorem run_copyN (w : World) (dT sT ty elem : TypeId) (g dCap : Nat) (A : Option Addr) (n sCap : Nat) (cur : Array Value) (t : TypeId) (cs : List Value) (s : Nat)
    (hu : Try.prog.underlying dT = some (.slice elem)) (hs : (Try.prog.info? elem).map (·.size) = some s)
    (hg : w.heap[g]? = some (.cells cur t (0, 0))) (hn : cs.length = n * s) (h0 : n = 0 → True)
    (hsrc : 0 < n → ∃ ad, A = some ad ∧ ∀ j v, cs[j]? = some v → w.cell? (ad.add j) = some v) (hfit : cs.length = cur.size) (h1 : ∀ v ∈ cs, v.oneCell' = true) :
    (Builtin.copy_ #[dT, sT] ty #[.slice (some ⟨g, 0, none⟩) n dCap, .slice A n sCap]).run Try.prog w = .ok (goInt n) (w.setRow g cs.toArray) := by
  have hst := run_storeCells_at Try.prog g 0 t cs 0 cur w hg (by omega) h1
  have hself : w.setRow g cur = w := setRow_self w g cur t (0, 0) hg
  cases hq : Try.prog.info? elem with
  | none => simp [hq] at hs
  | some i =>
    have hi : i.size = s := by simpa [hq] using hs
    by_cases hpos : 0 < n
    · obtain ⟨ad, rfl, hs2⟩ := hsrc hpos
      have hl := run_loadCells_list (P := Try.prog) w ad cs hs2
      have e : (List.take 0 cur.toList ++ cs ++ List.drop (0 + 0 + cs.length) cur.toList).toArray = cs.toArray := by
        rw [List.take_zero, List.nil_append, List.drop_eq_nil_of_le (by simp; omega), List.append_nil]
      simp only [Nat.add_zero] at hst e
      rw [e] at hst
      simp [Builtin.copy_, run_underlying hu, Builtin.lenOf, Builtin.firstCells, sizeOf, typeInfo, hq, hi, ← hn, hl, hst]
    · obtain rfl : n = 0 := by omega
      obtain rfl : cs = [] := List.eq_nil_of_length_eq_zero (by simpa using hn)
      have hc : cur = #[] := Array.eq_empty_of_size_eq_zero (by simpa using hfit.symm)
      subst hc
      have hl : ∀ (x : Addr), (loadCells x 0).run Try.prog w = .ok #[] w := fun x => by simpa using run_loadCells_list (P := Try.prog) w x [] (by simp)
      cases A <;> simp [Builtin.copy_, run_underlying hu, Builtin.lenOf, Builtin.firstCells, sizeOf, typeInfo, hq, hi, storeCells, hl, hself]
theorem wpList_copy_bx {w : World} {ops : Array Oper} {rest : List Oper} {o : Oper} {a : Act} {Q' : Exit → Act → World → Prop} (hgd : o.guard = none) (d s : Operand) (dT sT : TypeId)
    (ho : o.op = .call { callee := .builtin .copy, args := #[d, s], argTypes := #[dT, sT] }) (elem : TypeId) (sz : Nat) (hu : Try.prog.underlying dT = some (.slice elem)) (hsz : (Try.prog.info? elem).map (·.size) = some sz)
    (A : Option Addr) (n dCap sCap g : Nat) (hd : a.eval d = .slice (some ⟨g, 0, none⟩) n dCap) (hs : a.eval s = .slice A n sCap)
    (cur : Array Value) (t : TypeId) (hg : Hid (Bx w g t cur)) (cs : List Value) (hn : cs.length = n * sz)
    (hsrc : 0 < n → ∃ ad, A = some ad ∧ ∀ j v, cs[j]? = some v → w.cell? (ad.add j) = some v) (hfit : cs.length = cur.size) (h1 : ∀ v ∈ cs, v.oneCell' = true)
    (h : ∀ w', Hid (Bx w' g t cs.toArray) → Hid (Kp g w w') → wpList Try.prog ops Q' rest (a.put o.dst (goInt n)) w') :
    wpList Try.prog ops Q' (o :: rest) a w := by
  refine wpList_plain hgd fun K hK => ?_
  have hrun := run_copyN w dT sT o.type elem g dCap A n sCap cur t cs sz hu hsz hg.out hn (fun _ => trivial) hsrc hfit h1
  unfold Oper.wp
  simp [execOp, ho, resolve, invoke, builtin, hd, hs, hrun, Result.andThen]
  exact hK _ _ (h _ (Lib.hid (setRow_heap w g _ _ t _ hg.out)) (Lib.hid ⟨rfl, rfl, rfl, by simp, fun k _ hk => setRow_other w g k _ (fun e => hk (by rw [e]))⟩))
theorem add_flat (R n : Nat) : (⟨R, 0, none⟩ : Addr).add n = ⟨R, n, none⟩ := by
  unfold Addr.add
  split
  · rename_i h0; simp [h0]
  · simp
/-- A row of zones, as a whole block. -/
def ZB (w : World) (R : Nat) (P : List (Zn × Value)) : Prop := Bx w R 45 (P.flatMap zcl).toArray
theorem ZB.cell {w : World} {R : Nat} {P : List (Zn × Value)} (h : ZB w R P) (k : Nat) (hk : k < P.length) {j : Nat} (hj : j < 3) : w.cell? ⟨R, k * 3 + j, none⟩ = (zcl P[k])[j]? := by
  rw [Bx.cell h]
  have := flat_atZ P k hk hj
  simpa using this
/-- One zone of a row, as the walk spells it. -/
theorem ZB.at {w : World} {R : Nat} {P : List (Zn × Value)} (h : ZB w R P) {a : Addr} (ha : a = ⟨R, 0, none⟩) (k : Nat) (hk : k < P.length) :
    w.cell? (a.add (k * 3)) = some P[k].2 ∧ w.cell? ⟨(a.add (k * 3)).block, (a.add (k * 3)).off + 1, none⟩ = some (.int .i64 P[k].1.firm) ∧ w.cell? ⟨(a.add (k * 3)).block, (a.add (k * 3)).off + 2, none⟩ = some (.bool P[k].1.full)
    ∧ w.frozen? (a.add (k * 3)) = false ∧ w.frozen? ⟨(a.add (k * 3)).block, (a.add (k * 3)).off + 1, none⟩ = false ∧ w.frozen? ⟨(a.add (k * 3)).block, (a.add (k * 3)).off + 2, none⟩ = false := by
  subst ha
  simp only [add_flat]
  exact ⟨h.cell k hk (j := 0) (by omega), h.cell k hk (j := 1) (by omega), h.cell k hk (j := 2) (by omega), Bx.frozen h _, Bx.frozen h _, Bx.frozen h _⟩
theorem zset (P : List (Zn × Value)) (k : Nat) (h : k < P.length) (p : Zn × Value) : (P.set k p).flatMap zcl = (((P.flatMap zcl).set (k * 3) p.2).set (k * 3 + 1) (.int .i64 p.1.firm)).set (k * 3 + 2) (.bool p.1.full) := by
  induction P generalizing k with
  | nil => simp at h
  | cons x r ih =>
    have hl : (zcl x).length = 3 := rfl
    cases k with
    | zero => simp [zcl]
    | succ k =>
      have hk : k < r.length := by simpa using h
      rw [List.set_cons_succ, List.flatMap_cons, List.flatMap_cons, ih k hk, List.set_append_right _ _ (by rw [hl]; omega), List.set_append_right _ _ (by rw [hl]; omega), List.set_append_right _ _ (by rw [hl]; omega)]
      rw [show (k + 1) * 3 - (zcl x).length = k * 3 by rw [hl]; omega, show (k + 1) * 3 + 1 - (zcl x).length = k * 3 + 1 by rw [hl]; omega, show (k + 1) * 3 + 2 - (zcl x).length = k * 3 + 2 by rw [hl]; omega]
theorem set_self {α : Type} (l : List α) (i : Nat) (x : α) (h : l[i]? = some x) : l.set i x = l := by
  obtain ⟨hi, rfl⟩ := List.getElem?_eq_some_iff.1 h
  exact List.set_getElem_self hi
theorem ZB.put {w : World} {R : Nat} {P : List (Zn × Value)} (h : ZB w R P) {a : Addr} (ha : a = ⟨R, 0, none⟩) (k : Nat) (hk : k < P.length) (u : Value) : ZB (w.setCell (a.add (k * 3)) u) R (P.set k (P[k].1, u)) := by
  subst ha
  rw [add_flat]
  have := Bx.set h (k * 3) u
  unfold ZB
  rw [zset P k hk, set_self _ (k * 3 + 1) _ (by rw [List.getElem?_set_ne (by omega)]; exact flat_atZ P k hk (j := 1) (by omega)), set_self _ (k * 3 + 2) _ (by rw [List.getElem?_set_ne (by omega)]; exact flat_atZ P k hk (j := 2) (by omega))]
  simpa using this
theorem ZB.put1 {w : World} {R : Nat} {P : List (Zn × Value)} (h : ZB w R P) {a : Addr} (ha : a = ⟨R, 0, none⟩) (k : Nat) (hk : k < P.length) (n : Int) : ZB (w.setCell ⟨(a.add (k * 3)).block, (a.add (k * 3)).off + 1, none⟩ (.int .i64 n)) R (P.set k ({ P[k].1 with firm := n }, P[k].2)) := by
  subst ha
  rw [add_flat]
  have := Bx.set h (k * 3 + 1) (.int .i64 n)
  unfold ZB
  rw [zset P k hk, set_self _ (k * 3) _ (flat_atZ P k hk (j := 0) (by omega)), set_self _ (k * 3 + 2) _ (by rw [List.getElem?_set_ne (by omega)]; exact flat_atZ P k hk (j := 2) (by omega))]
  simpa using this
theorem ZB.put2 {w : World} {R : Nat} {P : List (Zn × Value)} (h : ZB w R P) {a : Addr} (ha : a = ⟨R, 0, none⟩) (k : Nat) (hk : k < P.length) (b : Bool) : ZB (w.setCell ⟨(a.add (k * 3)).block, (a.add (k * 3)).off + 2, none⟩ (.bool b)) R (P.set k ({ P[k].1 with full := b }, P[k].2)) := by
  subst ha
  rw [add_flat]
  have := Bx.set h (k * 3 + 2) (.bool b)
  unfold ZB
  rw [zset P k hk, set_self _ (k * 3) _ (flat_atZ P k hk (j := 0) (by omega)), set_self _ (k * 3 + 1) _ (flat_atZ P k hk (j := 1) (by omega))]
  simpa using this
/-- A row of zones, as a slice that is read. -/
theorem ZB.zns {w : World} {R : Nat} {P : List (Zn × Value)} (h : ZB w R P) {a : Addr} (ha : a = ⟨R, 0, none⟩) (hp : ∀ p ∈ P, okZ p.1 ∧ Blks w w.heap.size p.2 p.1.b) {n : Nat} (hn : n = P.length) : Zns w w.heap.size (.slice (some a) n n) (P.map (·.1)) := by
  subst hn
  refine ⟨some a, P.length, by rw [List.length_map], by rw [List.length_map]; exact Nat.le_refl _, by simp, fun x hx => ?_, fun k hk => ⟨a, rfl, by subst ha; exact Bx.lt h, ?_⟩⟩
  · obtain ⟨p, hp', rfl⟩ := List.mem_map.1 hx
    exact (hp p hp').1
  · have hk' : k < P.length := by rw [List.length_map] at hk; exact hk
    obtain ⟨h0, h1, h2, -⟩ := h.at ha k hk'
    rw [List.getElem_map]
    exact ⟨h1, h2, P[k].2, h0, (hp _ (List.getElem_mem hk')).2⟩
/-- A row of texts, as a whole block. -/
def TB (w : World) (v : Value) (l : List ByteArray) (g : Nat) : Prop := v = .slice (some ⟨g, 0, none⟩) l.length l.length ∧ Bx w g 9 (l.map Value.string).toArray
theorem TB.blks {w : World} {v : Value} {l : List ByteArray} {g : Nat} (h : TB w v l g) : Blks w (g + 1) v l := by
  obtain ⟨rfl, h⟩ := h
  refine ⟨_, _, rfl, Nat.le_refl _, by simp, fun k hk => ⟨⟨g, 0, none⟩, rfl, by simp, ?_⟩⟩
  rw [add_flat, h.cell]
  simp [hk]
theorem TB.on {w w' : World} {v : Value} {l : List ByteArray} {g : Nat} (h : TB w v l g) (q : Q w w') : TB w' v l g := ⟨h.1, h.2.on q⟩
end Go.Proofs.Yteoondmakdghhaa

namespace Go.Proofs.Yteoondmakdghhaa
set_option maxRecDepth 100000
open Go.ChangeShapes Go.WideShapes Go.ChangeAt Go.RowKit
set_option linter.unusedVariables false
set_option linter.unusedSimpArgs false
set_option maxRecDepth 100000
set_option maxHeartbeats 4000000 in
theorem apartZ_any (l : List ByteArray) (v : Value) (w : World) (hl : l.length ≤ 100000) (ht : Blks w w.heap.size v l) :
    Calls Try.prog 26 #[v] w fun e w' => ∃ v' g, e = .returned v' ∧ TB w' v' l g ∧ w.heap.size ≤ g ∧ g < w'.heap.size ∧ Q w w' := by
  obtain ⟨A, c, e, ec, ez, f⟩ := ht
  subst e
  have HF := Lib.hid f
  obtain ⟨n, hn⟩ : ∃ n, n = l.length := ⟨_, rfl⟩
  have HN := Lib.hid hn
  rw [← hn] at hl ⊢
  clear f ec ez hn
  go_enter Try.func26, Try.ntmps26
  go_wp2_with (at_make; refine wpList_make_bx _ rfl _ _ 31 rfl 9 (.string ⟨#[]⟩) 1 16 Try.underlying31 info_str .i64 .i64 _ _ n rfl rfl rfl rfl (by omega) (by unfold maxLen; omega) ?_; intro w4 hB hQ hS; refine Hid.out ?_)
  refine Lib.hid ?_
  have hsrc : Hid (0 < n → ∃ ad, A = some ad ∧ ∀ j v, (l.map Value.string)[j]? = some v → w4.cell? (ad.add j) = some v) := Lib.hid (fun h0 => by
    have HL := HN.out
    obtain ⟨a0, e0, -, -⟩ := HF.out 0 (by omega)
    subst e0
    refine ⟨a0, rfl, fun j v hj => ?_⟩
    obtain ⟨hj1, hj2⟩ := List.getElem?_eq_some_iff.1 hj
    rw [List.getElem_map] at hj2
    subst hj2
    have hj3 : j < l.length := by simpa using hj1
    obtain ⟨a1, e1, e2, e3⟩ := HF.out j hj3
    injection e1 with e1
    subst e1
    exact (hQ.out.cell (by rw [add_block]; exact e2)).trans e3)
  obtain ⟨cs, hcs⟩ : ∃ cs, cs = l.map Value.string := ⟨_, rfl⟩
  rw [← hcs] at hsrc
  have hlen : cs.length = n * 1 := by rw [hcs, List.length_map, ← HN.out]; omega
  have hone : Hid (∀ v ∈ cs, v.oneCell' = true) := Lib.hid (by rw [hcs]; intro u hu; obtain ⟨s, -, rfl⟩ := List.mem_map.1 hu; rfl)
  have HC := Lib.hid hcs
  clear hcs
  obtain ⟨g, hg⟩ : ∃ g, g = w.heap.size := ⟨_, rfl⟩
  rw [← hg] at hB ⊢
  have HG := Lib.hid hg
  clear hg
  go_wp2_with (with_reducible refine wpList_copy_bx rfl (.tmp 7) (.tmp 8) 31 31 rfl 9 1 Try.underlying31 (by kernel_rfl) A n _ _ g rfl rfl _ _ hB cs hlen hsrc.out (by rw [size_madeCells]; exact hlen) hone.out ?_; intro w5 hB5 hK5; refine Hid.out ?_)
  refine Lib.hid ?_
  go_wp2
  go_ret
  refine ⟨_, g, rfl, ⟨by rw [HN.out]; rfl, by rw [← HC.out]; exact hB5.out⟩, by rw [HG.out]; exact Nat.le_refl _, Bx.lt hB5.out, ?_⟩
  exact Kp.q hQ.out hK5.out (by rw [HG.out]; exact Nat.le_refl _)
/-- Numbers of a device as an int can be. -/
def okN (d : Dv) : Prop := okI64 d.fuel ∧ okI64 d.bad
set_option maxHeartbeats 8000000 in
theorem refuseZ_any (d : Dv) (A : Option Addr) (n c : Nat) (k : Int) (w : World) (hb : okN d) : Calls Try.prog 46 #[dvV d (.slice A n c), .int .i64 k] w fun e w' => e = .returned (.tuple #[dvV (refD d) (.slice A n c), .int .i64 k]) ∧ Q w w' := by
  obtain ⟨zs, size, mo, fuel, off, bad⟩ := d
  rw [dvV]
  obtain ⟨-, hb⟩ := hb
  simp only [okI64] at hb ⊢
  by_cases h : bad = 9223372036854775807
  · have HV : Hid (refD ⟨zs, size, mo, fuel, off, bad⟩ = ⟨zs, size, mo, fuel, off, 0⟩) := Lib.hid (by simp [refD, h])
    have h' : (bad == 9223372036854775807) = true := by simpa using h
    go_enter Try.func46, Try.ntmps46
    go_wp2_with fail
    refine bodyPost_ret (v := .tuple #[.agg #[.slice A n c, .int .i64 size, .int .i64 mo, .int .i64 fuel, .bool off, .int .i64 0], .int .i64 k]) ?_ rfl ⟨by rw [HV.out]; rfl, ((Q.refl w).alloc _).alloc _⟩
    rw [results_cell_tmp rfl]
    go_simp
  · have HV : Hid (refD ⟨zs, size, mo, fuel, off, bad⟩ = ⟨zs, size, mo, fuel, off, bad + 1⟩) := Lib.hid (by simp [refD, h])
    have h' : (bad == 9223372036854775807) = false := by simpa using h
    go_enter Try.func46, Try.ntmps46
    go_wp2_with fail
    refine bodyPost_ret (v := .tuple #[.agg #[.slice A n c, .int .i64 size, .int .i64 mo, .int .i64 fuel, .bool off, .int .i64 (bad + 1)], .int .i64 k]) ?_ rfl ⟨by rw [HV.out]; rfl, ((Q.refl w).alloc _).alloc _⟩
    rw [results_cell_tmp rfl]
    go_simp
set_option maxHeartbeats 8000000 in
theorem burnZ_any (d : Dv) (A : Option Addr) (n c : Nat) (w : World) (hb : okN d) (hf : -1 ≤ d.fuel) : Calls Try.prog 36 #[dvV d (.slice A n c)] w fun e w' => e = .returned (.tuple #[dvV (burnD d).1 (.slice A n c), .bool (burnD d).2]) ∧ Q w w' := by
  obtain ⟨zs, size, mo, fuel, off, bad⟩ := d
  rw [dvV]
  obtain ⟨hb, -⟩ := hb
  simp only [okI64] at hb hf ⊢
  cases off with
  | true =>
    have HV : Hid (burnD ⟨zs, size, mo, fuel, true, bad⟩ = (⟨zs, size, mo, fuel, true, bad⟩, false)) := Lib.hid (by simp [burnD])
    go_enter Try.func36, Try.ntmps36
    go_wp2_with fail
    refine bodyPost_ret (v := .tuple #[.agg #[.slice A n c, .int .i64 size, .int .i64 mo, .int .i64 fuel, .bool true, .int .i64 bad], .bool false]) ?_ rfl ⟨by rw [HV.out]; rfl, ((Q.refl w).alloc _).alloc _⟩
    rw [results_cell_tmp rfl]
    go_simp
  | false =>
    by_cases h0 : fuel = 0
    · have HV : Hid (burnD ⟨zs, size, mo, fuel, false, bad⟩ = (⟨zs, size, mo, fuel, true, bad⟩, false)) := Lib.hid (by simp [burnD, h0])
      have h' : (fuel == 0) = true := by simpa using h0
      subst h0
      go_enter Try.func36, Try.ntmps36
      go_wp2_with fail
      refine bodyPost_ret (v := .tuple #[.agg #[.slice A n c, .int .i64 size, .int .i64 mo, .int .i64 0, .bool true, .int .i64 bad], .bool false]) ?_ rfl ⟨by rw [HV.out]; rfl, ((Q.refl w).alloc _).alloc _⟩
      rw [results_cell_tmp rfl]
      go_simp
    · have h' : (fuel == 0) = false := by simpa using h0
      by_cases h1 : fuel = -1
      · have HV : Hid (burnD ⟨zs, size, mo, fuel, false, bad⟩ = (⟨zs, size, mo, -1, false, bad⟩, true)) := Lib.hid (by simp [burnD, h1])
        subst h1
        clear h0 h'
        go_enter Try.func36, Try.ntmps36
        go_wp2_with fail
        refine bodyPost_ret (v := .tuple #[.agg #[.slice A n c, .int .i64 size, .int .i64 mo, .int .i64 (-1), .bool false, .int .i64 bad], .bool true]) ?_ rfl ⟨by rw [HV.out]; rfl, ((Q.refl w).alloc _).alloc _⟩
        rw [results_cell_tmp rfl]
        go_simp
      · have h2 : 0 < fuel := by omega
        have HV : Hid (burnD ⟨zs, size, mo, fuel, false, bad⟩ = (⟨zs, size, mo, fuel - 1, false, bad⟩, true)) := Lib.hid (by simp [burnD, h0, h2])
        have h3 : (fuel != -1) = true := by simpa using h1
        clear h1 h0
        go_enter Try.func36, Try.ntmps36
        go_wp2_with fail
        refine bodyPost_ret (v := .tuple #[.agg #[.slice A n c, .int .i64 size, .int .i64 mo, .int .i64 (fuel - 1), .bool false, .int .i64 bad], .bool true]) ?_ rfl ⟨by rw [HV.out]; rfl, ((Q.refl w).alloc _).alloc _⟩
        rw [results_cell_tmp rfl]
        go_simp
end Go.Proofs.Yteoondmakdghhaa

