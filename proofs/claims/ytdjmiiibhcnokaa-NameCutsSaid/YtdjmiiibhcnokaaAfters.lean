/-
  Contracts of After, the program's and the document's.
-/
import Derived.Test.YtdjmiiibhcnokaaGroups
import Derived.Laws.IdiomStrings
namespace Go.Proofs.Ytdjmiiibhcnokaa
set_option linter.unusedVariables false
open Go.ChangeShapes Go.WideShapes Go.ChangeAt Go.RowKit

/-- How many octets are left when those 126 at the end are gone. -/
def trimO (p : ByteArray) : Nat → Nat
  | 0 => 0
  | n + 1 => if (p.data.toList.getD n 0).toNat = 126 then trimO p n else n + 1
theorem trimO_go {p : ByteArray} {n : Nat} (h : n < p.size) (e : p[n].toNat = 126) : trimO p (n + 1) = trimO p n := by
  simp only [trimO]; rw [getD_at p h, if_pos e]
theorem trimO_stop {p : ByteArray} {n : Nat} (h : n < p.size) (e : ¬ p[n].toNat = 126) : trimO p (n + 1) = n + 1 := by
  simp only [trimO]; rw [getD_at p h, if_neg e]

def upO (p : ByteArray) : Nat → ByteArray
  | 0 => ByteArray.empty
  | m + 1 => p.extract 0 m ++ ⟨#[p.data.toList.getD m 0 + 1]⟩
theorem upO_at {p : ByteArray} {m : Nat} (h : m < p.size) : upO p (m + 1) = p.extract 0 m ++ ⟨#[p[m] + 1]⟩ := by simp only [upO]; rw [getD_at p h]
/-- The least text behind all that begin with a prefix. -/
def afterO (p : ByteArray) : ByteArray := if hasO 0 60 ko p = true then upO p (trimO p p.size) else ByteArray.empty
theorem afterO_no {p : ByteArray} (h : hasO 0 60 ko p = false) : afterO p = ByteArray.empty := by simp [afterO, h]
theorem afterO_yes {p : ByteArray} (h : hasO 0 60 ko p = true) : afterO p = upO p (trimO p p.size) := by simp [afterO, h]

theorem hasO_all {lo hi : Nat} {p : Int → Bool} {s : ByteArray} (h : hasO lo hi p s = true) : allO p s = true := by
  unfold hasO at h; simp only [Bool.and_eq_true] at h; exact h.2

/-- string of a slice of one octet. -/
theorem conv1 (W : World) (a : Addr) (n : Int) (cap : Nat) (h0 : 0 ≤ n) (h1 : n ≤ 255) (h : W.cell? a = some (.int .u8 n)) :
    (convert 33 9 (.slice (some a) 1 cap)).run Try.prog W = .ok (.string ⟨#[UInt8.ofNat n.toNat]⟩) W := by
  have := run_convert_bytes_back (P := Try.prog) W 33 9 5 a cap [UInt8.ofNat n.toNat] Try.underlying33 Try.underlying5 Try.underlying9 (by
    intro j hj
    obtain rfl : j = 0 := by simp at hj; omega
    have e : ((UInt8.ofNat n.toNat).toNat : Int) = n := by rw [UInt8.toNat_ofNat']; omega
    simp only [Addr.add, if_true, List.getElem_cons_zero]
    rw [e]; exact h)
  exact this

set_option maxHeartbeats 1000000 in
theorem after_any (p : ByteArray) (w : World) (hp : p.size ≤ 1000) :
    Calls Try.prog 21 #[.string p] w fun e w' => e = .returned (.string (afterO p)) ∧ Q w w' := by
  cases h2 : hasO 0 60 ko p with
  | false =>
    go_enter Try.func21, Try.ntmps21
    go_wp2_with fail
    refine (pref_any _ _ hp).mono ?_
    rintro e w2 ⟨rfl, hq2⟩
    go_wp2
    go_ret
    exact ⟨ret_str (afterO_no h2).symm, hq2⟩
  | true =>
    have HF := Lib.hid (afterO_yes h2)
    go_enter Try.func21, Try.ntmps21
    go_wp2_with fail
    refine (pref_any _ _ hp).mono ?_
    rintro e w2 ⟨rfl, hq2⟩
    go_wp2_with fail
    go_loop [3] (fun i => ∃ n : Nat, n ≤ p.size ∧ i = .int .i64 n ∧ Hid (trimO p p.size = trimO p n)) (fun i => (intOf i).toNat)
    case atStart => exact ⟨p.size, Nat.le_refl _, rfl, Lib.hid rfl⟩
    case round =>
      obtain ⟨n, hn, rfl, ht⟩ := hrel
      cases n with
      | zero =>
        go_wp2
        go_ret
        exact ⟨ret_str (by rw [HF.out, ht.out]; rfl), hq2⟩
      | succ m =>
        have hlt : m < p.size := by omega
        have hb : p[m].toNat < 256 := p[m].toNat_lt
        have e1 : ((m + 1 : Nat) : Int) - 1 = (m : Int) := by omega
        by_cases e : p[m].toNat = 126
        · have ht' := trimO_go hlt e
          have HT := Lib.hid (ht.out.trans ht')
          have t : ((p[m].toNat : Int) == 126) = true := by simp [e]
          clear ht' e
          go_wp2
          go_round
          case rel => exact ⟨m, by omega, rfl, HT⟩
          case measure => simp [intOf]
        · have ht' := trimO_stop hlt e
          have HT := Lib.hid (ht.out.trans ht')
          have t : ((p[m].toNat : Int) == 126) = false := by simp; omega
          have hko : p[m].toNat ≤ 126 := by
            have := allO_iff.1 (hasO_all h2) m hlt
            simp [ko] at this; omega
          have hcv := fun (W : World) (h : W.cell? ⟨w2.heap.size, 0, none⟩ = some (.int .u8 ((p[m].toNat : Int) + 1))) => conv1 W ⟨w2.heap.size, 0, none⟩ ((p[m].toNat : Int) + 1) 1 (by omega) (by omega) h
          clear ht' e
          go_wp2
          go_region
          go_wp2
          go_ret
          exact ⟨ret_str (by rw [HF.out, HT.out, upO_at hlt]), (hq2.alloc _).drew⟩

def strLen : Value → Nat | .string q => q.size | _ => 0
theorem cut_cut (p : ByteArray) (m n : Nat) (h : m ≤ n) : (p.extract 0 n).extract 0 m = p.extract 0 m := by
  rw [ByteArray.extract_extract]; simp [Nat.min_eq_left h]
theorem cut_at (p : ByteArray) (m n : Nat) (h : m < n) (hn : n ≤ p.size) (q : ByteArray) (e : q = p.extract 0 n) (hm : m < q.size) : q[m] = p[m] := by
  subst e
  simp [ByteArray.getElem_extract]

set_option maxHeartbeats 1000000 in
theorem rafter_any (p : ByteArray) (w : World) (hp : p.size ≤ 1000) :
    Calls Try.prog 22 #[.string p] w fun e w' => e = .returned (.string (afterO p)) ∧ Q w w' := by
  cases h2 : hasO 0 60 ko p with
  | false =>
    go_enter Try.func22, Try.ntmps22
    go_wp2_with fail
    refine (rpref_any _ _ hp).mono ?_
    rintro e w2 ⟨rfl, rfl⟩
    go_wp2
    go_ret
    exact ⟨ret_str (afterO_no h2).symm, Q.refl _⟩
  | true =>
    have HF := Lib.hid (afterO_yes h2)
    go_enter Try.func22, Try.ntmps22
    go_wp2_with fail
    refine (rpref_any _ _ hp).mono ?_
    rintro e w2 ⟨rfl, rfl⟩
    go_wp2_with fail
    go_loop [0] (fun i => ∃ (n : Nat) (q : ByteArray), n ≤ p.size ∧ i = .string q ∧ Hid (q.size = n) ∧ Hid (q = p.extract 0 n) ∧ Hid (trimO p p.size = trimO p n)) (fun i => strLen i)
    case atStart => exact ⟨p.size, p, Nat.le_refl _, rfl, Lib.hid rfl, Lib.hid (by simp), Lib.hid rfl⟩
    case round =>
      obtain ⟨n, q, hn, rfl, HS, HE, ht⟩ := hrel
      cases n with
      | zero =>
        have hnil := is_nil HS.out
        go_wp2
        go_ret
        exact ⟨ret_str (by rw [HF.out, ht.out]; rfl), Q.refl _⟩
      | succ m =>
        have hlt : m < p.size := by omega
        have hs1 : m + 1 ≤ q.size := by have := HS.out; omega
        have hs2 : q.size ≤ m + 1 := by have := HS.out; omega
        obtain ⟨n1, n2⟩ := ne_nil (s := q) (by omega)
        have e1 : (q.size : Int) - 1 = (m : Int) := by omega
        have hmq : m < q.size := by omega
        have hqm := cut_at p m (m + 1) (by omega) hn q HE.out hmq
        have HQM := Lib.hid hqm
        have hcut : q.extract 0 m = p.extract 0 m := by rw [HE.out, cut_cut p m (m + 1) (by omega)]
        have HCUT := Lib.hid hcut
        clear hcut
        have hb : q[m].toNat < 256 := q[m].toNat_lt
        have hko : q[m].toNat ≤ 126 := by
          have := allO_iff.1 (hasO_all h2) m hlt
          rw [hqm]
          simp [ko] at this; omega
        clear hqm
        by_cases e : q[m].toNat = 126
        · have ht' := trimO_go hlt (by rw [← HQM.out]; exact e)
          have HT := Lib.hid (ht.out.trans ht')
          have t1 : decide ((q[m].toNat : Int) < 126) = false := by simp; omega
          have t2 : ¬ (q[m].toNat : Int) < 126 := by omega
          clear ht' e hko hb e1
          have e1 : (q.size : Int) - 1 = (m : Int) := by omega
          go_wp2
          go_round
          case rel => exact ⟨m, q.extract 0 m, by omega, rfl, Lib.hid (by simp; omega), HCUT, HT⟩
          case measure => simp [strLen]; omega
        · have ht' := trimO_stop hlt (by rw [← HQM.out]; exact e)
          have HT := Lib.hid (ht.out.trans ht')
          have t1 : (q[m].toNat : Int) < 126 := by omega
          have hcv := fun (W : World) (h : W.cell? ⟨w.heap.size, 0, none⟩ = some (.int .u8 ((q[m].toNat : Int) + 1))) => conv1 W ⟨w.heap.size, 0, none⟩ ((q[m].toNat : Int) + 1) 1 (by omega) (by omega) h
          clear ht' e
          go_wp2
          go_ret
          exact ⟨ret_str (by rw [HF.out, HT.out, upO_at hlt, HCUT.out, HQM.out]), (Q.refl w).alloc _⟩
end Go.Proofs.Ytdjmiiibhcnokaa
