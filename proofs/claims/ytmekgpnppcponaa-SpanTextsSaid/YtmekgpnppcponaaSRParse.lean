/-
  Contract of the document's Parse.
-/
import Derived.Test.YtmekgpnppcponaaSText
import Derived.Test.YtmekgpnppcponaaSParse
import Derived.Laws.ResultCell
namespace Go.Proofs.Ytmekgpnppcponaa
open Go.ChangeShapes Go.WideShapes Go.ChangeAt Go.RowKit
set_option linter.unusedVariables false

/-- What the document's Parse tells. -/
def rparV : Option (Nat × Nat × Bool × Bool) → Value
  | some (f, t, o, b) => .tuple #[spn f t o b, .bool true]
  | none => .tuple #[spn 0 0 false false, .bool false]
theorem psd_by_no {l a c : List UInt8} (hl : l = a ++ 45 :: c) (ha : ∀ x ∈ a, x ≠ 45) {o b : Bool} (ho : c.isEmpty = o) (hb : a.isEmpty = b) (hm : mayP (rn a) (rn c) o b = false) : psd l = none := by
  cases h : psd l with
  | none => rfl
  | some p =>
    obtain ⟨f, t, o', b'⟩ := p
    have h1 := (psd_some h).1
    rw [hl] at h
    obtain ⟨e1, e2, e3, e4⟩ := psd_back ha h
    rw [← e1, ← e2, ← e3, ← e4, ho, hb, hm] at h1
    simp at h1
theorem psd_by_ne {l a c : List UInt8} (hl : l = a ++ 45 :: c) (ha : ∀ x ∈ a, x ≠ 45) {o b : Bool} (ho : c.isEmpty = o) (hb : a.isEmpty = b) {f t : Nat} (hf : rn a = f) (ht : rn c = t) (hn : ¬ l = txtP f t o b) : psd l = none := by
  cases h : psd l with
  | none => rfl
  | some p =>
    obtain ⟨f', t', o', b'⟩ := p
    have h1 := (psd_some h).2
    have h2 := h
    rw [hl] at h2
    obtain ⟨e1, e2, e3, e4⟩ := psd_back ha h2
    have k1 : f' = f := by omega
    have k2 : t' = t := by omega
    rw [k1, k2, ← e3, ← e4, ho, hb] at h1
    exact absurd h1 hn
theorem may_nat {x y : Int} {o b : Bool} (h : mayP x y o b = true) : ∃ f t : Nat, x = f ∧ y = t ∧ f ≤ 1099511627775 ∧ t ≤ 1099511627775 := by
  rcases may_kinds h with ⟨rfl, rfl, h1, h2, h3⟩ | ⟨rfl, rfl, h1, h2, h3⟩ | ⟨rfl, rfl, h1, h2, h3⟩ <;> exact ⟨x.toNat, y.toNat, by omega, by omega, by omega, by omega⟩
theorem txt_size {f t : Nat} {o b : Bool} (hf : f ≤ 1099511627775) (ht : t ≤ 1099511627775) : (mk (txtP f t o b)).size ≤ 27 := by
  have h1 := digs_len hf
  have h2 := digs_len ht
  rw [mk_size, txtP, List.length_append, List.length_cons]
  cases o <;> cases b <;> simp <;> omega

set_option maxHeartbeats 2000000 in
theorem rparse_any (s : ByteArray) (w : World) (hs : s.size ≤ 5000) :
    Calls Try.prog 13 #[.string s] w fun e w' => e = .returned (rparV (psd (bl s))) ∧ Q w w' := by
  rcases dash_or s with hn | ⟨i, hi, h0, hn⟩
  · have HV := Lib.hid (psd_none s hn)
    have H := Lib.hid hn
    have H1 := Lib.hid ((Q.refl w).alloc (.cells #[.int .i64 0, .int .i64 0, .bool false, .bool false] 23))
    clear hn
    go_enter Try.func13, Try.ntmps13
    go_wp2_with fail
    go_loop [4] (fun v => ∃ j : Nat, j ≤ s.size ∧ v = .int .i64 j) (fun v => s.size - (intOf v).toNat)
    case atStart => exact ⟨0, Nat.zero_le _, rfl⟩
    case round =>
      obtain ⟨j, hj, rfl⟩ := hrel
      by_cases hlt : j < s.size
      · have e1 : ((s[j].toNat : Int) == 45) = false := beq_false_of_ne (by have := H.out j hlt; omega)
        go_wp2
        go_round
        case rel => exact ⟨j + 1, by omega, by go_num⟩
        case measure => simp [intOf]; omega
      · obtain rfl : j = s.size := by omega
        go_wp2
        (try simp only [Exit.inBlock, Exit.then])
        refine bodyPost_ret (v := .tuple #[.agg #[.int .i64 0, .int .i64 0, .bool false, .bool false], .bool false]) ?_ rfl ?_
        · rw [results_cell_tmp rfl]
          go_simp
        · exact ⟨by rw [HV.out]; rfl, H1.out⟩
  · have HB := Lib.hid (dash_split s hi h0)
    have HA := Lib.hid (dash_none s (Nat.le_of_lt hi) hn)
    have H := Lib.hid hn
    have H0 := Lib.hid h0
    obtain ⟨a, ha⟩ : ∃ a, a = s.extract 0 i := ⟨_, rfl⟩
    obtain ⟨c, hc⟩ : ∃ c, c = s.extract (i + 1) s.size := ⟨_, rfl⟩
    have za : a.size = i := by rw [ha, size_cut _ (by omega)]; omega
    have zc : c.size = s.size - (i + 1) := by rw [hc, size_cut _ (by omega)]
    obtain ⟨bb, hbb⟩ : ∃ bb : Bool, bb = ((i : Int) == 0) := ⟨_, rfl⟩
    obtain ⟨ob, hob⟩ : ∃ ob : Bool, ob = ((i : Int) == (s.size : Int) - 1) := ⟨_, rfl⟩
    have E1 : Hid ((bl a).isEmpty = bb) := Lib.hid (by
      rw [hbb]
      by_cases hz : i = 0
      · rw [bl_emp (by omega)]; simp [hz]
      · rw [bl_nem (by omega)]; exact (beq_false_of_ne (by omega)).symm)
    have E2 : Hid ((bl c).isEmpty = ob) := Lib.hid (by
      rw [hob]
      by_cases hz : i + 1 = s.size
      · rw [bl_emp (by omega)]
        have : (i : Int) = (s.size : Int) - 1 := by omega
        simp [this]
      · rw [bl_nem (by omega)]; exact (beq_false_of_ne (by omega)).symm)
    obtain ⟨x, hx⟩ : ∃ x, x = rn (bl a) := ⟨_, rfl⟩
    obtain ⟨y, hy⟩ : ∃ y, y = rn (bl c) := ⟨_, rfl⟩
    have N1 := Lib.hid (fun w => rnumber_any a w (by omega))
    have N2 := Lib.hid (fun w => rnumber_any c w (by omega))
    rw [← hx] at N1
    rw [← hy] at N2
    have HX := Lib.hid hx.symm
    have HY := Lib.hid hy.symm
    rw [← ha] at HA
    rw [← ha, ← hc] at HB
    rw [ha] at N1
    rw [hc] at N2
    have hb1 := hbb.symm
    have hb2 := hob.symm
    have hb3 : ((i : Int) == (s.size : Int)) = false := beq_false_of_ne (by omega)
    clear hx hy hbb hob hn h0 ha hc za zc
    go_enter Try.func13, Try.ntmps13
    go_wp2_with fail
    go_loop [4] (fun v => ∃ j : Nat, j ≤ i ∧ v = .int .i64 j) (fun v => s.size - (intOf v).toNat)
    case atStart => exact ⟨0, Nat.zero_le _, rfl⟩
    case round =>
      obtain ⟨j, hj, rfl⟩ := hrel
      have hlt : j < s.size := by omega
      by_cases he : j = i
      · subst he
        have e1 : ((s[j].toNat : Int) == 45) = true := by rw [H0.out]; rfl
        cases hm : mayP x y ob bb with
        | false =>
          have HP := Lib.hid (psd_by_no HB.out HA.out E2.out E1.out (by rw [HX.out, HY.out]; exact hm))
          have M := Lib.hid (fun w => rmay_any x y ob bb w)
          rw [hm] at M
          rw [spn] at M
          clear hm
          go_wp2_with fail
          refine (N1.out _).mono ?_
          rintro e w1 ⟨rfl, rfl⟩
          go_wp2_with fail
          refine (N2.out _).mono ?_
          rintro e w1 ⟨rfl, rfl⟩
          go_wp2_with fail
          refine (M.out _).mono ?_
          rintro e w1 ⟨rfl, q⟩
          obtain ⟨c0, c1, c2, c3⟩ : Cells w1 (w.heap.size + 1) x y ob bb := by have := cells_of q; simpa using this
          obtain ⟨d0, d1, d2, d3⟩ := cells_on (g := w.heap.size) (w1 := w.alloc (.cells #[.int .i64 0, .int .i64 0, .bool false, .bool false] 23)) (cells_of (Q.refl _)) (by simp) q
          obtain ⟨k0, k1, k2, k3⟩ := free_on (g := w.heap.size) (w1 := w.alloc (.cells #[.int .i64 0, .int .i64 0, .bool false, .bool false] 23)) (free_of (Q.refl _)) (by simp) q
          have HQ := Lib.hid ((((Q.refl w).alloc _).alloc _).trans q)
          go_wp2
          (try simp only [Exit.inBlock, Exit.then])
          refine bodyPost_ret (v := .tuple #[.agg #[.int .i64 0, .int .i64 0, .bool false, .bool false], .bool false]) ?_ rfl ?_
          · rw [results_cell_tmp rfl]
            go_simp
          · exact ⟨by rw [HP.out]; rfl, Q.set (Q.set (Q.set (Q.set HQ.out (Nat.le_refl _) _) (Nat.le_refl _) _) (Nat.le_refl _) _) (Nat.le_refl _) _⟩
        | true =>
          obtain ⟨f, t, rfl, rfl, hf, ht⟩ := may_nat hm
          have T := Lib.hid (fun w => rtext_yes f t ob bb w hm)
          have M := Lib.hid (fun w => rmay_any f t ob bb w)
          rw [hm] at M
          rw [spn] at M T
          have hz := txt_size (o := ob) (b := bb) hf ht
          obtain ⟨z, hzz⟩ : ∃ z, z = mk (txtP f t ob bb) := ⟨_, rfl⟩
          have he := eq_texts z s
          by_cases hs2 : z = s
          · have HV : Hid (psd (bl s) = some (f, t, ob, bb)) := Lib.hid (by rw [← hs2, hzz, bl_mk]; exact psd_txt hm)
            have h1 : (z.toList == s.toList) = true := by rw [he]; simpa using hs2
            rw [← hzz] at T hz
            clear hm hzz he hs2
            go_wp2_with fail
            refine (N1.out _).mono ?_
            rintro e w1 ⟨rfl, rfl⟩
            go_wp2_with fail
            refine (N2.out _).mono ?_
            rintro e w1 ⟨rfl, rfl⟩
            go_wp2_with fail
            refine (M.out _).mono ?_
            rintro e w1 ⟨rfl, q⟩
            obtain ⟨c0, c1, c2, c3⟩ : Cells w1 (w.heap.size + 1) f t ob bb := by have := cells_of q; simpa using this
            obtain ⟨d0, d1, d2, d3⟩ := cells_on (g := w.heap.size) (w1 := w.alloc (.cells #[.int .i64 0, .int .i64 0, .bool false, .bool false] 23)) (cells_of (Q.refl _)) (by simp) q
            obtain ⟨k0, k1, k2, k3⟩ := free_on (g := w.heap.size) (w1 := w.alloc (.cells #[.int .i64 0, .int .i64 0, .bool false, .bool false] 23)) (free_of (Q.refl _)) (by simp) q
            have HQ := Lib.hid ((((Q.refl w).alloc _).alloc _).trans q)
            go_wp2_with fail
            refine (T.out _).mono ?_
            rintro e w2 ⟨rfl, q2⟩
            have hg : w.heap.size + 1 + 1 ≤ w1.heap.size := by have := q.size; simp at this; omega
            replace c0 := (Below.cell q2 (p := ⟨w.heap.size + 1, 0, none⟩) (show w.heap.size + 1 < _ by omega)).trans c0
            replace c1 := (Below.cell q2 (p := ⟨w.heap.size + 1, 1, none⟩) (show w.heap.size + 1 < _ by omega)).trans c1
            replace c2 := (Below.cell q2 (p := ⟨w.heap.size + 1, 2, none⟩) (show w.heap.size + 1 < _ by omega)).trans c2
            replace c3 := (Below.cell q2 (p := ⟨w.heap.size + 1, 3, none⟩) (show w.heap.size + 1 < _ by omega)).trans c3
            replace d0 := (Below.cell q2 (p := ⟨w.heap.size, 0, none⟩) (show w.heap.size < _ by omega)).trans d0
            replace d1 := (Below.cell q2 (p := ⟨w.heap.size, 1, none⟩) (show w.heap.size < _ by omega)).trans d1
            replace d2 := (Below.cell q2 (p := ⟨w.heap.size, 2, none⟩) (show w.heap.size < _ by omega)).trans d2
            replace d3 := (Below.cell q2 (p := ⟨w.heap.size, 3, none⟩) (show w.heap.size < _ by omega)).trans d3
            replace k0 := (Below.frozen q2 (p := ⟨w.heap.size, 0, none⟩) (show w.heap.size < _ by omega)).trans k0
            replace k1 := (Below.frozen q2 (p := ⟨w.heap.size, 1, none⟩) (show w.heap.size < _ by omega)).trans k1
            replace k2 := (Below.frozen q2 (p := ⟨w.heap.size, 2, none⟩) (show w.heap.size < _ by omega)).trans k2
            replace k3 := (Below.frozen q2 (p := ⟨w.heap.size, 3, none⟩) (show w.heap.size < _ by omega)).trans k3
            replace HQ := Lib.hid (HQ.out.trans q2)
            go_wp2
            (try simp only [Exit.inBlock, Exit.then])
            refine bodyPost_ret (v := .tuple #[.agg #[.int .i64 f, .int .i64 t, .bool ob, .bool bb], .bool true]) ?_ rfl ?_
            · rw [results_cell_tmp rfl]
              go_simp
            · exact ⟨by rw [HV.out]; rfl, Q.set (Q.set (Q.set (Q.set HQ.out (Nat.le_refl _) _) (Nat.le_refl _) _) (Nat.le_refl _) _) (Nat.le_refl _) _⟩
          · have HV : Hid (psd (bl s) = none) := Lib.hid (psd_by_ne HB.out HA.out E2.out E1.out HX.out HY.out (fun e => hs2 (by rw [hzz, ← e, mk_bl])))
            have h1 : (z.toList == s.toList) = false := by rw [he]; simpa using hs2
            rw [← hzz] at T hz
            clear hm hzz he hs2
            go_wp2_with fail
            refine (N1.out _).mono ?_
            rintro e w1 ⟨rfl, rfl⟩
            go_wp2_with fail
            refine (N2.out _).mono ?_
            rintro e w1 ⟨rfl, rfl⟩
            go_wp2_with fail
            refine (M.out _).mono ?_
            rintro e w1 ⟨rfl, q⟩
            obtain ⟨c0, c1, c2, c3⟩ : Cells w1 (w.heap.size + 1) f t ob bb := by have := cells_of q; simpa using this
            obtain ⟨d0, d1, d2, d3⟩ := cells_on (g := w.heap.size) (w1 := w.alloc (.cells #[.int .i64 0, .int .i64 0, .bool false, .bool false] 23)) (cells_of (Q.refl _)) (by simp) q
            obtain ⟨k0, k1, k2, k3⟩ := free_on (g := w.heap.size) (w1 := w.alloc (.cells #[.int .i64 0, .int .i64 0, .bool false, .bool false] 23)) (free_of (Q.refl _)) (by simp) q
            have HQ := Lib.hid ((((Q.refl w).alloc _).alloc _).trans q)
            go_wp2_with fail
            refine (T.out _).mono ?_
            rintro e w2 ⟨rfl, q2⟩
            have hg : w.heap.size + 1 + 1 ≤ w1.heap.size := by have := q.size; simp at this; omega
            replace c0 := (Below.cell q2 (p := ⟨w.heap.size + 1, 0, none⟩) (show w.heap.size + 1 < _ by omega)).trans c0
            replace c1 := (Below.cell q2 (p := ⟨w.heap.size + 1, 1, none⟩) (show w.heap.size + 1 < _ by omega)).trans c1
            replace c2 := (Below.cell q2 (p := ⟨w.heap.size + 1, 2, none⟩) (show w.heap.size + 1 < _ by omega)).trans c2
            replace c3 := (Below.cell q2 (p := ⟨w.heap.size + 1, 3, none⟩) (show w.heap.size + 1 < _ by omega)).trans c3
            replace d0 := (Below.cell q2 (p := ⟨w.heap.size, 0, none⟩) (show w.heap.size < _ by omega)).trans d0
            replace d1 := (Below.cell q2 (p := ⟨w.heap.size, 1, none⟩) (show w.heap.size < _ by omega)).trans d1
            replace d2 := (Below.cell q2 (p := ⟨w.heap.size, 2, none⟩) (show w.heap.size < _ by omega)).trans d2
            replace d3 := (Below.cell q2 (p := ⟨w.heap.size, 3, none⟩) (show w.heap.size < _ by omega)).trans d3
            replace k0 := (Below.frozen q2 (p := ⟨w.heap.size, 0, none⟩) (show w.heap.size < _ by omega)).trans k0
            replace k1 := (Below.frozen q2 (p := ⟨w.heap.size, 1, none⟩) (show w.heap.size < _ by omega)).trans k1
            replace k2 := (Below.frozen q2 (p := ⟨w.heap.size, 2, none⟩) (show w.heap.size < _ by omega)).trans k2
            replace k3 := (Below.frozen q2 (p := ⟨w.heap.size, 3, none⟩) (show w.heap.size < _ by omega)).trans k3
            replace HQ := Lib.hid (HQ.out.trans q2)
            go_wp2
            (try simp only [Exit.inBlock, Exit.then])
            refine bodyPost_ret (v := .tuple #[.agg #[.int .i64 0, .int .i64 0, .bool false, .bool false], .bool false]) ?_ rfl ?_
            · rw [results_cell_tmp rfl]
              go_simp
            · exact ⟨by rw [HV.out]; rfl, Q.set (Q.set (Q.set (Q.set HQ.out (Nat.le_refl _) _) (Nat.le_refl _) _) (Nat.le_refl _) _) (Nat.le_refl _) _⟩
      · have hji : j < i := by omega
        have e1 : ((s[j].toNat : Int) == 45) = false := beq_false_of_ne (by have := H.out j hji; omega)
        clear he
        go_wp2
        go_round
        case rel => exact ⟨j + 1, by omega, by go_num⟩
        case measure => simp [intOf]; omega
end Go.Proofs.Ytmekgpnppcponaa
