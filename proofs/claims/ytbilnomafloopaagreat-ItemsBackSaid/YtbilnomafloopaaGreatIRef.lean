/-
  Contract of the document's in: an item, laid in its place.
-/
import Derived.Test.YtbilnomafloopaaGreatISame
import Derived.Deep.DeepCutAuto
namespace Go.Proofs.YtbilnomafloopaaGreat
set_option maxRecDepth 100000
open Go.ChangeShapes Go.WideShapes Go.ChangeAt Go.RowKit
set_option linter.unusedVariables false
set_option linter.unusedSimpArgs false

@[go_sem] theorem binOp_string_gtrI (t : TypeId) (a b : ByteArray) : binOp .gtr t (.string a) (.string b) = pure (.bool !(Op.bytesLess a.toList b.toList || a.toList == b.toList)) := by simp [binOp, Op.stringOp]
theorem gtr_form (a b : ByteArray) : (!(Op.bytesLess a.toList b.toList || a.toList == b.toList)) = ltB b a := by rw [less_leq]; simp [ltB]
theorem filt_takeI {α : Type} (l : List α) (i : Nat) (h : i < l.length) (p : α → Bool) : (p l[i] = true → (l.take (i + 1)).filter p = (l.take i).filter p ++ [l[i]]) ∧ (p l[i] = false → (l.take (i + 1)).filter p = (l.take i).filter p) := by
  rw [List.take_succ_eq_append_getElem h, List.filter_append]
  constructor
  · intro e; rw [List.filter_cons, if_pos e]; rfl
  · intro e; rw [List.filter_cons, if_neg (by simp [e])]; simp
theorem filt_leI {α : Type} (l : List α) (i : Nat) (p : α → Bool) : ((l.take i).filter p).length ≤ l.length := by
  refine Nat.le_trans (List.length_filter_le _ _) ?_
  rw [List.length_take]; omega
theorem cells_itm1 (w : World) (x : Itm) (t : TypeId) : ∀ j u, (icl x)[j]? = some u → (w.alloc (.cells (icl x).toArray t)).cell? ((⟨w.heap.size, 0, none⟩ : Addr).add j) = some u := cells_oneitm w x t
set_option maxHeartbeats 8000000 in
theorem rin_any (l : List Itm) (x : Itm) (v : Value) (w : World) (hl : l.length ≤ 200) (hx : okI x) (ht : Itms w w.heap.size v l) :
    Calls Tryz.prog 40 #[v, itm x] w fun e w' => ∃ v', e = .returned v' ∧ OwnI w.heap.size w' v' (inG Itm.n l x) ∧ Q w w' := by
  obtain ⟨A, c, rfl, -, -, hok, hcells⟩ := ht
  obtain ⟨xn, xv⟩ := x
  obtain ⟨hxn, hxv⟩ := hx
  simp only at hxn hxv
  unfold maxLen at hxn hxv
  have HG : Hid (inG Itm.n l ⟨xn, xv⟩ = l.filter (fun y => ltB y.n xn) ++ (⟨xn, xv⟩ :: l.filter (fun y => ltB xn y.n))) := Lib.hid rfl
  have HC := Lib.hid hcells
  have HK := Lib.hid hok
  have q0 : Below w.heap.size w (w.alloc (.cells #[.string xn, .string xv] 68)) := (Q.refl w).alloc _
  have b0 : (w.alloc (.cells #[.string xn, .string xv] 68)).cell? ⟨w.heap.size, 0, none⟩ = some (.string xn) := by simp
  have b1 : (w.alloc (.cells #[.string xn, .string xv] 68)).cell? ⟨w.heap.size, 1, none⟩ = some (.string xv) := by simp
  have s0 : (w.alloc (.cells #[.string xn, .string xv] 68)).heap.size = w.heap.size + 1 := World.size_alloc ..
  obtain ⟨W0, hW0⟩ : ∃ z, z = w.alloc (.cells #[.string xn, .string xv] 68) := ⟨_, rfl⟩
  rw [← hW0] at q0 b0 b1 s0
  have HQ0 := Lib.hid q0
  have HB0 := Lib.hid b0
  have HB1 := Lib.hid b1
  have HS0 := Lib.hid s0
  clear hcells hok q0 b0 b1 s0
  rw [itm]
  simp only
  go_enter Tryz.func40, Tryz.ntmps40
  go_wp2_with fail
  rw [← hW0]
  clear hW0
  go_loopw [5, 6] (fun O I wr => ∃ i : Nat, i ≤ l.length ∧ I = .int .i64 i ∧ OwnI (w.heap.size + 1) wr O ((l.take i).filter (fun y => ltB y.n xn)) ∧ Below (w.heap.size + 1) W0 wr) (fun _ I _ => l.length - (intOf I).toNat)
  case atStart => exact ⟨0, Nat.zero_le _, rfl, OwnI.nil _ _, Below.refl _ _⟩
  case round =>
    obtain ⟨i, hil, rfl, hown, hbel⟩ := hrel
    have hs := hbel.size
    have hs0 := HS0.out
    by_cases hlt : i < l.length
    · obtain ⟨a, rfl, ha, hat⟩ := HC.out i hlt
      have hat2 := hat.keep (by rw [add_block]; exact ha) fun p hp => ((Below.mono hbel (Nat.le_succ _)).cell hp).trans (HQ0.out.cell hp)
      obtain ⟨c0, c1⟩ := hat2
      have e0 := (hbel.cell (p := ⟨w.heap.size, 0, none⟩) (Nat.lt_succ_self _)).trans HB0.out
      clear hat
      have HF := filt_takeI l i hlt (fun y => ltB y.n xn)
      have hlen := filt_leI l i (fun y => ltB y.n xn)
      have hy0 := HK.out _ (List.getElem_mem hlt)
      obtain ⟨y, hy⟩ : ∃ y, y = l[i] := ⟨_, rfl⟩
      rw [← hy] at c0 c1 HF hy0
      clear hy
      have hilt : (i : Int) < (l.length : Int) := by omega
      cases hb : ltB y.n xn with
      | true =>
        have HW := Lib.hid (HF.1 hb)
        clear HF
        have h3 : Op.bytesLess y.n.toList xn.toList = true := hb
        clear hb
        go_wp2_with fail
        go_region
        obtain ⟨wd, hwd⟩ : ∃ z, z = wr.drew := ⟨_, rfl⟩
        rw [← hwd]
        have hown := OwnI.on hown (Q.refl wr).drew
        have hbel := hbel.drew
        have c0 : wr.drew.cell? (a.add (i * 2)) = some (.string y.n) := c0
        have c1 : wr.drew.cell? ⟨(a.add (i * 2)).block, (a.add (i * 2)).off + 1, none⟩ = some (.string y.val) := c1
        rw [← hwd] at hown hbel c0 c1
        have hs := hbel.size
        clear hwd
        go_wp2_with (at_builtin; refine wpList_snoc_itm _ rfl _ _ 26 68 Tryz.underlying26 rfl (w.heap.size + 1) wd.heap.size _ ((l.take i).filter (fun y => ltB y.n xn)) y rfl rfl (cells_itm1 wd y 68) (World.ownsRow.alloc hown _) ?hb ?hl ?_; (case hb => simp; omega); (case hl => omega); intro v1 w2 h1 h2; have b1 := OwnI.grown (World.ownsRow.alloc hown _) (hbel.alloc (by omega) _) (by simp; omega) h2; rw [← HW.out] at h1; clear h2)
        go_roundw
        case rel => exact ⟨i + 1, by omega, by go_num, h1, b1⟩
        case measure => simp [intOf]; omega
      | false =>
        have HW := Lib.hid (HF.2 hb)
        clear HF
        have h3 : Op.bytesLess y.n.toList xn.toList = false := hb
        clear hb
        go_wp2_with fail
        go_region
        go_wp2
        go_roundw
        case rel => exact ⟨i + 1, by omega, by go_num, by rw [HW.out]; exact hown, hbel.drew⟩
        case measure => simp [intOf]; omega
    · have h2 : ¬ (i : Int) < (l.length : Int) := by omega
      rw [List.take_of_length_le (by omega)] at hown
      have e0 := (hbel.cell (p := ⟨w.heap.size, 0, none⟩) (Nat.lt_succ_self _)).trans HB0.out
      have e1 := (hbel.cell (p := ⟨w.heap.size, 1, none⟩) (Nat.lt_succ_self _)).trans HB1.out
      have hlen := List.length_filter_le (fun y : Itm => ltB y.n xn) l
      go_wp2_with (at_builtin; refine wpList_snoc_itm _ rfl _ _ 26 68 Tryz.underlying26 rfl (w.heap.size + 1) wr.heap.size _ (l.filter (fun y => ltB y.n xn)) ⟨xn, xv⟩ rfl rfl (cells_itm1 wr ⟨xn, xv⟩ 68) (World.ownsRow.alloc hown _) ?hb ?hl ?_; (case hb => simp; omega); (case hl => omega); intro v1 w2 h1 h2; have b1 := OwnI.grown (World.ownsRow.alloc hown _) (hbel.alloc (by omega) _) (by simp; omega) h2; clear h2)
      clear hown hbel e0 e1 hs
      obtain ⟨PR, hPR⟩ : ∃ z, z = l.filter (fun y => ltB y.n xn) ++ [⟨xn, xv⟩] := ⟨_, rfl⟩
      rw [← hPR] at h1
      have HPR : Hid (inG Itm.n l ⟨xn, xv⟩ = PR ++ l.filter (fun y => ltB xn y.n)) := Lib.hid (by rw [HG.out, hPR, List.append_assoc]; rfl)
      have hPL : PR.length ≤ 1000 := by rw [hPR]; simp; omega
      clear hPR
      go_wp2_with fail
      go_loopw [5, 7] (fun O I wr => ∃ i : Nat, i ≤ l.length ∧ I = .int .i64 i ∧ OwnI (w.heap.size + 1) wr O (PR ++ (l.take i).filter (fun y => ltB xn y.n)) ∧ Below (w.heap.size + 1) W0 wr) (fun _ I _ => l.length - (intOf I).toNat)
      case atStart => exact ⟨0, Nat.zero_le _, rfl, by simpa using h1, b1⟩
      case round =>
        obtain ⟨i, hil, rfl, hown, hbel⟩ := hrel
        have hs := hbel.size
        have hs0 := HS0.out
        by_cases hlt : i < l.length
        · obtain ⟨a, hAa, ha, hat⟩ := HC.out i hlt
          subst hAa
          have hat2 := hat.keep (by rw [add_block]; exact ha) fun p hp => ((Below.mono hbel (Nat.le_succ _)).cell hp).trans (HQ0.out.cell hp)
          obtain ⟨c0, c1⟩ := hat2
          have e0 := (hbel.cell (p := ⟨w.heap.size, 0, none⟩) (Nat.lt_succ_self _)).trans HB0.out
          clear hat
          have HF := filt_takeI l i hlt (fun y => ltB xn y.n)
          have hlen := filt_leI l i (fun y => ltB xn y.n)
          have hy0 := HK.out _ (List.getElem_mem hlt)
          obtain ⟨y, hy⟩ : ∃ y, y = l[i] := ⟨_, rfl⟩
          rw [← hy] at c0 c1 HF hy0
          clear hy
          have hilt : (i : Int) < (l.length : Int) := by omega
          cases hb : ltB xn y.n with
          | true =>
            have HW := Lib.hid (HF.1 hb)
            clear HF
            have hg := (gtr_form y.n xn).trans hb
            have h3 : (Op.bytesLess y.n.toList xn.toList || y.n.toList == xn.toList) = false := by simpa using hg
            clear hb hg
            go_wp2_with fail
            go_region
            obtain ⟨wd, hwd⟩ : ∃ z, z = wr.drew := ⟨_, rfl⟩
            rw [← hwd]
            have hown := OwnI.on hown (Q.refl wr).drew
            have hbel := hbel.drew
            have c0 : wr.drew.cell? (a.add (i * 2)) = some (.string y.n) := c0
            have c1 : wr.drew.cell? ⟨(a.add (i * 2)).block, (a.add (i * 2)).off + 1, none⟩ = some (.string y.val) := c1
            rw [← hwd] at hown hbel c0 c1
            have hs := hbel.size
            clear hwd
            go_wp2_with (at_builtin; refine wpList_snoc_itm _ rfl _ _ 26 68 Tryz.underlying26 rfl (w.heap.size + 1) wd.heap.size _ (PR ++ (l.take i).filter (fun y => ltB xn y.n)) y rfl rfl (cells_itm1 wd y 68) (World.ownsRow.alloc hown _) ?hb ?hl ?_; (case hb => simp; omega); (case hl => rw [List.length_append]; omega); intro v1 w2 h1 h2; have b1 := OwnI.grown (World.ownsRow.alloc hown _) (hbel.alloc (by omega) _) (by simp; omega) h2; rw [List.append_assoc, ← HW.out] at h1; clear h2)
            go_roundw
            case rel => exact ⟨i + 1, by omega, by go_num, h1, b1⟩
            case measure => simp [intOf]; omega
          | false =>
            have HW := Lib.hid (HF.2 hb)
            clear HF
            have hg := (gtr_form y.n xn).trans hb
            have h3 : (Op.bytesLess y.n.toList xn.toList || y.n.toList == xn.toList) = true := by revert hg; cases (Op.bytesLess y.n.toList xn.toList || y.n.toList == xn.toList) <;> simp
            clear hb hg
            go_wp2_with fail
            go_region
            go_wp2
            go_roundw
            case rel => exact ⟨i + 1, by omega, by go_num, by rw [HW.out]; exact hown, hbel.drew⟩
            case measure => simp [intOf]; omega
        · have h2 : ¬ (i : Int) < (l.length : Int) := by omega
          rw [List.take_of_length_le (by omega)] at hown
          go_wp2
          go_ret
          exact ⟨_, rfl, by rw [HPR.out]; exact OwnI.low hown (Nat.le_succ _), Below.trans HQ0.out (Below.mono hbel (Nat.le_succ _))⟩
end Go.Proofs.YtbilnomafloopaaGreat
