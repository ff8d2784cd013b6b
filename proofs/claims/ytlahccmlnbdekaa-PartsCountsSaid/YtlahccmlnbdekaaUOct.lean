/-
  How many octets there are: contracts of the program's Octets and the document's.
-/
import Derived.Test.YtlahccmlnbdekaaUFind2
namespace Go.Proofs.Ytlahccmlnbdekaa
open Go.ChangeShapes Go.WideShapes Go.ChangeAt Go.RowKit
set_option linter.unusedVariables false
set_option linter.unusedSimpArgs false
set_option maxRecDepth 100000

def sizP (L : List Prt) : Nat := (L.map fun p => p.data.size).sum
def sizU (l : List Upl) : Nat := (l.map fun u => sizP u.L).sum
theorem sizP_next {L : List Prt} {j : Nat} (h : j < L.length) : sizP (L.take (j + 1)) = sizP (L.take j) + L[j].data.size := by
  rw [List.take_succ_eq_append_getElem h, sizP, sizP, List.map_append, List.sum_append]; simp
theorem sizU_next {l : List Upl} {i : Nat} (h : i < l.length) : sizU (l.take (i + 1)) = sizU (l.take i) + sizP l[i].L := by
  rw [List.take_succ_eq_append_getElem h, sizU, sizU, List.map_append, List.sum_append]; simp
theorem sizP_le {L : List Prt} (h : ∀ x ∈ L, x.data.size ≤ 5000) : sizP L ≤ 5000 * L.length := by
  induction L with
  | nil => simp [sizP]
  | cons y r ih =>
    have h1 := ih fun x hx => h x (List.mem_cons_of_mem _ hx)
    have h2 := h y (List.mem_cons_self ..)
    simp only [sizP, List.map_cons, List.sum_cons, List.length_cons] at h1 ⊢; omega
theorem sizP_top {L : List Prt} (h : ∀ x ∈ L, x.data.size ≤ 5000) (hl : L.length ≤ 1000) (j : Nat) : sizP (L.take j) ≤ 5000000 := by
  have := sizP_le (L := L.take j) fun x hx => h x (List.mem_of_mem_take hx)
  have h2 : (L.take j).length ≤ L.length := by rw [List.length_take]; omega
  omega
theorem sizU_le {l : List Upl} (h : ∀ x ∈ l, smU x) : sizU l ≤ 5000000 * l.length := by
  induction l with
  | nil => simp [sizU]
  | cons y r ih =>
    have h1 := ih fun x hx => h x (List.mem_cons_of_mem _ hx)
    have h2 := h y (List.mem_cons_self ..)
    have h3 := sizP_top h2.2.2 h2.2.1 y.L.length
    rw [List.take_length] at h3
    simp only [sizU, List.map_cons, List.sum_cons, List.length_cons] at h1 ⊢; omega
theorem sizU_top {l : List Upl} (h : smL l) (i : Nat) : sizU (l.take i) ≤ 5000000000 := by
  have := sizU_le (l := l.take i) fun x hx => h.2 x (List.mem_of_mem_take hx)
  have h2 : (l.take i).length ≤ l.length := by rw [List.length_take]; omega
  have := h.1
  omega

set_option maxHeartbeats 8000000 in
theorem octets_any (l : List Upl) (v : Value) (w : World) (hs : smL l) (ht : Upls w w.heap.size v l) :
    Calls Try.prog 25 #[v] w fun e w' => e = .returned (.int .i64 (sizU l : Nat)) ∧ Q w w' := by
  have HT := Lib.hid ht
  have HS := Lib.hid hs
  have hl := hs.1
  obtain ⟨A, c, rfl⟩ := ht.form
  clear ht hs
  go_enter Try.func25, Try.ntmps25
  go_wp2_with fail
  go_loopw [3,5,7,10] (fun S _ _ I wr => ∃ i t : Nat, i ≤ l.length ∧ I = .int .i64 i ∧ S = .int .i64 (t : Nat) ∧ t ≤ 5000000000 ∧ Hid (t = sizU (l.take i)) ∧ Q w wr) (fun _ _ _ I _ => l.length - (intOf I).toNat)
  case atStart => exact ⟨0, 0, Nat.zero_le _, rfl, rfl, by omega, Lib.hid (by simp [sizU]), Q.refl _⟩
  case round =>
    obtain ⟨i, t, hil, rfl, rfl, ht9, HTT, q⟩ := hrel
    by_cases hlt : i < l.length
    · obtain ⟨a, c', hv, ha, A2, c2, hps, hat⟩ := HT.out.pick i hlt
      injection hv with e1 e2 e3
      subst e1 e3
      have hilt : (i : Int) < (l.length : Int) := by omega
      have hsm := HS.out.2 _ (List.getElem_mem hlt)
      have HN := Lib.hid (sizU_next hlt)
      have H9 := Lib.hid (sizU_top HS.out (i + 1))
      obtain ⟨p, hp⟩ : ∃ p, p = l[i] := ⟨_, rfl⟩
      rw [← hp] at hat hps hsm HN
      have HPS := Lib.hid hps
      have HAT : Hid (∀ d, Q w d → d.cell? (a.add (i * 3)) = some (.int .u64 (p.id : Nat)) ∧ d.cell? ⟨(a.add (i * 3)).block, (a.add (i * 3)).off + 1, none⟩ = some (.string p.key) ∧ d.cell? ⟨(a.add (i * 3)).block, (a.add (i * 3)).off + 2, none⟩ = some (.slice A2 p.L.length c2)) := Lib.hid hat
      obtain ⟨u0, u1, u2⟩ := hat _ q
      have hm := hsm.2.1
      obtain ⟨n, hn⟩ : ∃ n, p.L.length = n := ⟨_, rfl⟩
      rw [hn] at u2 HAT hm
      have HSM := Lib.hid hsm
      have HPN := Lib.hid hn
      clear hat e2 hp hps hsm hn
      have q1 := q.alloc (.cells #[.int .u64 (p.id : Nat), .string p.key, .slice A2 n c2] 40)
      go_wp2_with fail
      go_loopw [3, 7, 17] (fun S _ J wz => ∃ j m : Nat, j ≤ n ∧ J = .int .i64 j ∧ S = .int .i64 (m : Nat) ∧ m ≤ 5000000000 ∧ Hid (m = t + sizP (p.L.take j)) ∧ Q w wz) (fun _ _ J _ => n - (intOf J).toNat)
      case atStart => exact ⟨0, t, Nat.zero_le _, rfl, rfl, ht9, Lib.hid (by simp [sizP]), q1⟩
      case round =>
        obtain ⟨j, m, hjn, rfl, rfl, hm9, HM, qz⟩ := hrel
        clear u0 u1 u2
        obtain ⟨u0, u1, u2⟩ := HAT.out _ qz
        by_cases hjl : j < n
        · have hjL : j < p.L.length := by have := HPN.out; omega
          obtain ⟨b, c3, hv3, hb, -, hbt⟩ := HPS.out.pick j hjL
          injection hv3 with f1 f2 f3
          subst f1 f3
          have hjlt : (j : Int) < (n : Int) := by omega
          have hsz := HSM.out.2.2 _ (List.getElem_mem hjL)
          have HJ := Lib.hid (sizP_next hjL)
          obtain ⟨x, hx⟩ : ∃ x, x = p.L[j] := ⟨_, rfl⟩
          rw [← hx] at hbt hsz HJ
          obtain ⟨d0, d1⟩ := hbt _ qz
          have HX : Hid (m + x.data.size = t + sizP (p.L.take (j + 1))) := Lib.hid (by rw [HM.out, HJ.out]; omega)
          have hbound : m + x.data.size ≤ 5000000000 := by
            have h1 := HX.out; have h2 := H9.out; have h3 := HN.out; have h4 := HTT.out
            have h5 : sizP (p.L.take (j + 1)) ≤ sizP p.L := by
              have : p.L = p.L.take (j + 1) ++ p.L.drop (j + 1) := (List.take_append_drop ..).symm
              conv => rhs; rw [this]
              rw [sizP, sizP, List.map_append, List.sum_append]; omega
            omega
          obtain ⟨z, hz⟩ : ∃ z, z = x.data.size := ⟨_, rfl⟩
          clear hbt hx f2
          have q3 := qz.alloc (.cells #[.int .i64 x.n, .string x.data] 25)
          go_wp2
          go_roundw
          case rel => exact ⟨j + 1, m + x.data.size, by omega, by go_num, by go_num, hbound, HX, q3⟩
          case measure => simp [intOf]; omega
        · have HX : Hid (m = sizU (l.take (i + 1))) := Lib.hid (by
            have h1 := HM.out
            have h2 : j = p.L.length := by have := HPN.out; omega
            rw [h2, List.take_length] at h1
            rw [HN.out, ← HTT.out]; exact h1)
          have hjlt : ¬ (j : Int) < (n : Int) := by omega
          go_wp2
          go_roundw
          case rel => exact ⟨i + 1, m, by omega, by go_num, rfl, hm9, HX, qz⟩
          case measure => simp [intOf]; omega
    · have HV : Hid (t = sizU l) := Lib.hid (by have := HTT.out; rw [List.take_of_length_le (by omega)] at this; exact this)
      have hilt : ¬ (i : Int) < (l.length : Int) := by omega
      go_wp2
      go_ret
      exact ⟨by rw [HV.out]; rfl, q⟩
set_option maxHeartbeats 8000000 in
theorem roctets_any (l : List Upl) (v : Value) (w : World) (hs : smL l) (ht : Upls w w.heap.size v l) :
    Calls Try.prog 26 #[v] w fun e w' => e = .returned (.int .i64 (sizU l : Nat)) ∧ Q w w' := by
  have HT := Lib.hid ht
  have HS := Lib.hid hs
  have hl := hs.1
  obtain ⟨A, c, rfl⟩ := ht.form
  clear ht hs
  go_enter Try.func26, Try.ntmps26
  go_wp2_with fail
  go_loopw [3,4,5] (fun S I _ wr => ∃ i t : Nat, i ≤ l.length ∧ I = .int .i64 i ∧ S = .int .i64 (t : Nat) ∧ t ≤ 5000000000 ∧ Hid (t = sizU (l.take i)) ∧ Q w wr) (fun _ I _ _ => l.length - (intOf I).toNat)
  case atStart => exact ⟨0, 0, Nat.zero_le _, rfl, rfl, by omega, Lib.hid (by simp [sizU]), Q.refl _⟩
  case round =>
    obtain ⟨i, t, hil, rfl, rfl, ht9, HTT, q⟩ := hrel
    by_cases hlt : i < l.length
    · obtain ⟨a, c', hv, ha, A2, c2, hps, hat⟩ := HT.out.pick i hlt
      injection hv with e1 e2 e3
      subst e1 e3
      have hilt : (i : Int) < (l.length : Int) := by omega
      have hsm := HS.out.2 _ (List.getElem_mem hlt)
      have HN := Lib.hid (sizU_next hlt)
      have H9 := Lib.hid (sizU_top HS.out (i + 1))
      obtain ⟨p, hp⟩ : ∃ p, p = l[i] := ⟨_, rfl⟩
      rw [← hp] at hat hps hsm HN
      have HPS := Lib.hid hps
      have HAT : Hid (∀ d, Q w d → d.cell? (a.add (i * 3)) = some (.int .u64 (p.id : Nat)) ∧ d.cell? ⟨(a.add (i * 3)).block, (a.add (i * 3)).off + 1, none⟩ = some (.string p.key) ∧ d.cell? ⟨(a.add (i * 3)).block, (a.add (i * 3)).off + 2, none⟩ = some (.slice A2 p.L.length c2)) := Lib.hid hat
      obtain ⟨u0, u1, u2⟩ := hat _ q
      have hm := hsm.2.1
      obtain ⟨n, hn⟩ : ∃ n, p.L.length = n := ⟨_, rfl⟩
      rw [hn] at u2 HAT hm
      have HSM := Lib.hid hsm
      have HPN := Lib.hid hn
      clear hat e2 hp hps hsm hn
      go_wp2_with fail
      go_loopw [3, 5] (fun S J wz => ∃ j m : Nat, j ≤ n ∧ J = .int .i64 j ∧ S = .int .i64 (m : Nat) ∧ m ≤ 5000000000 ∧ Hid (m = t + sizP (p.L.take j)) ∧ Q w wz) (fun _ J _ => n - (intOf J).toNat)
      case atStart => exact ⟨0, t, Nat.zero_le _, rfl, rfl, ht9, Lib.hid (by simp [sizP]), q⟩
      case round =>
        obtain ⟨j, m, hjn, rfl, rfl, hm9, HM, qz⟩ := hrel
        clear u0 u1 u2
        obtain ⟨u0, u1, u2⟩ := HAT.out _ qz
        by_cases hjl : j < n
        · have hjL : j < p.L.length := by have := HPN.out; omega
          obtain ⟨b, c3, hv3, hb, -, hbt⟩ := HPS.out.pick j hjL
          injection hv3 with f1 f2 f3
          subst f1 f3
          have hjlt : (j : Int) < (n : Int) := by omega
          have hsz := HSM.out.2.2 _ (List.getElem_mem hjL)
          have HJ := Lib.hid (sizP_next hjL)
          obtain ⟨x, hx⟩ : ∃ x, x = p.L[j] := ⟨_, rfl⟩
          rw [← hx] at hbt hsz HJ
          obtain ⟨d0, d1⟩ := hbt _ qz
          have HX : Hid (m + x.data.size = t + sizP (p.L.take (j + 1))) := Lib.hid (by rw [HM.out, HJ.out]; omega)
          have hbound : m + x.data.size ≤ 5000000000 := by
            have h1 := HX.out; have h2 := H9.out; have h3 := HN.out; have h4 := HTT.out
            have h5 : sizP (p.L.take (j + 1)) ≤ sizP p.L := by
              have : p.L = p.L.take (j + 1) ++ p.L.drop (j + 1) := (List.take_append_drop ..).symm
              conv => rhs; rw [this]
              rw [sizP, sizP, List.map_append, List.sum_append]; omega
            omega
          obtain ⟨z, hz⟩ : ∃ z, z = x.data.size := ⟨_, rfl⟩
          clear hbt hx f2
          go_wp2
          go_roundw
          case rel => exact ⟨j + 1, m + x.data.size, by omega, by go_num, by go_num, hbound, HX, qz⟩
          case measure => simp [intOf]; omega
        · have HX : Hid (m = sizU (l.take (i + 1))) := Lib.hid (by
            have h1 := HM.out
            have h2 : j = p.L.length := by have := HPN.out; omega
            rw [h2, List.take_length] at h1
            rw [HN.out, ← HTT.out]; exact h1)
          have hjlt : ¬ (j : Int) < (n : Int) := by omega
          go_wp2
          go_roundw
          case rel => exact ⟨i + 1, m, by omega, by go_num, rfl, hm9, HX, qz⟩
          case measure => simp [intOf]; omega
    · have HV : Hid (t = sizU l) := Lib.hid (by have := HTT.out; rw [List.take_of_length_le (by omega)] at this; exact this)
      have hilt : ¬ (i : Int) < (l.length : Int) := by omega
      go_wp2
      go_ret
      exact ⟨by rw [HV.out]; rfl, q⟩
end Go.Proofs.Ytlahccmlnbdekaa
