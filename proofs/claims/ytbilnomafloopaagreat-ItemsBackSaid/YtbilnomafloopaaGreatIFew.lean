/-
  Contracts of the statements' Few of items, and Changes of changes.
-/
import Derived.Test.YtbilnomafloopaaGreatIMap
import Derived.Laws.AppendOwnNone
namespace Go.Proofs.YtbilnomafloopaaGreat
set_option maxRecDepth 100000
open Go.ChangeShapes Go.WideShapes Go.ChangeAt Go.RowKit
set_option linter.unusedVariables false
set_option linter.unusedSimpArgs false

def cutT (k : Nat) (s : ByteArray) : ByteArray := if k < s.size then s.extract 0 k else s
theorem cutT_size {k : Nat} (s : ByteArray) (h : k ≤ 1000000) : (cutT k s).size ≤ k := by
  unfold cutT; split
  · rw [size_cut _ (by omega)]; omega
  · omega

def fewIt (x : Itm) : Itm := ⟨cutT 120 x.n, cutT 2100 x.val⟩
def fewIs (l : List Itm) : List Itm := (l.take 60).map fewIt
theorem fewIs_ok {l : List Itm} : ∀ x ∈ fewIs l, x.n.size ≤ 120 ∧ x.val.size ≤ 2100 := by
  intro x hx
  obtain ⟨y, -, rfl⟩ := List.mem_map.1 hx
  exact ⟨cutT_size _ (by omega), cutT_size _ (by omega)⟩
theorem fewIs_len (l : List Itm) : (fewIs l).length ≤ 60 := by rw [fewIs, List.length_map, List.length_take]; omega
theorem fewIs_take (l : List Itm) (i : Nat) (h : i < l.length) : (l.take (i + 1)).map fewIt = (l.take i).map fewIt ++ [fewIt l[i]] := by
  rw [List.take_succ_eq_append_getElem h, List.map_append]; rfl
theorem cells_itm2 (w : World) (o : Obj) (x : Itm) (t : TypeId) : ∀ j u, (icl x)[j]? = some u → ((w.alloc o).alloc (.cells (icl x).toArray t)).cell? ((⟨w.heap.size + 1, 0, none⟩ : Addr).add j) = some u := by
  have h := cells_oneitm (w.alloc o) x t
  rw [World.size_alloc] at h
  exact h
set_option maxHeartbeats 4000000 in
theorem fewIs_any (l : List Itm) (v : Value) (w : World) (hl : l.length ≤ maxLen) (ht : Itms w w.heap.size v l) :
    Calls Tryz.prog 19 #[v] w fun e w' => ∃ v', e = .returned v' ∧ OwnI w.heap.size w' v' (fewIs l) ∧ Q w w' := by
  obtain ⟨A, c, rfl, -, -, hok, hcells⟩ := ht
  unfold maxLen at hl
  have HC := Lib.hid hcells
  have HK := Lib.hid hok
  clear hcells hok
  go_enter Tryz.func19, Tryz.ntmps19
  go_wp2_with fail
  go_loopw [3, 4] (fun O I wr => ∃ i : Nat, i ≤ l.length ∧ i ≤ 60 ∧ I = .int .i64 i ∧ OwnI w.heap.size wr O ((l.take i).map fewIt) ∧ Below w.heap.size w wr) (fun _ I _ => 60 - (intOf I).toNat)
  case atStart => exact ⟨0, Nat.zero_le _, by omega, rfl, OwnI.nil _ _, Below.refl _ _⟩
  case round =>
    obtain ⟨i, hil, hi60, rfl, hown, hbel⟩ := hrel
    by_cases hlt : i < l.length
    · by_cases h60 : i < 60
      · obtain ⟨a, rfl, ha, hat⟩ := HC.out i hlt
        obtain ⟨c0, c1⟩ := hat.keep (by rw [add_block]; exact ha) fun _ hp => hbel.cell hp
        clear hat
        have HW := Lib.hid (fewIs_take l i hlt)
        have hx0 := HK.out _ (List.getElem_mem hlt)
        have hlen : ((l.take i).map fewIt).length ≤ 60 := by rw [List.length_map, List.length_take]; omega
        obtain ⟨x, hx⟩ : ∃ x, x = l[i] := ⟨_, rfl⟩
        rw [← hx] at c0 c1 HW hx0
        clear hx
        have hs := hbel.size
        obtain ⟨z0, z1⟩ := hx0
        unfold maxLen at z0 z1
        by_cases y0 : 120 < x.n.size
        · have y0' : (120 : Int) < (x.n.size : Int) := by omega
          have E0 : Hid (cutT 120 x.n = x.n.extract 0 120) := Lib.hid (by rw [cutT, if_pos y0])
          by_cases y1 : 2100 < x.val.size
          · have y1' : (2100 : Int) < (x.val.size : Int) := by omega
            have E1 : Hid (cutT 2100 x.val = x.val.extract 0 2100) := Lib.hid (by rw [cutT, if_pos y1])
            have EX : Hid (fewIt x = ⟨(x.n.extract 0 120), (x.val.extract 0 2100)⟩) := Lib.hid (by rw [fewIt, E0.out, E1.out])
            go_wp2_with (at_builtin; refine wpList_snoc_itm _ rfl _ _ 26 68 Tryz.underlying26 rfl w.heap.size (wr.heap.size + 1) _ ((l.take i).map fewIt) ⟨(x.n.extract 0 120), (x.val.extract 0 2100)⟩ rfl rfl (cells_itm2 wr _ ⟨(x.n.extract 0 120), (x.val.extract 0 2100)⟩ 68) (World.ownsRow.alloc (World.ownsRow.alloc hown _) _) ?hb ?hl ?_; (case hb => simp; omega); (case hl => omega); intro v1 w2 h1 h2; have b1 := OwnI.grown (World.ownsRow.alloc (World.ownsRow.alloc hown _) _) ((hbel.alloc hs _).alloc (by simp; omega) _) (by simp; omega) h2; rw [← EX.out, ← HW.out] at h1; clear h2)
            go_roundw
            case rel => exact ⟨i + 1, by omega, by omega, by go_num, h1, b1⟩
            case measure => simp [intOf]; omega
          · have y1' : ¬ (2100 : Int) < (x.val.size : Int) := by omega
            have E1 : Hid (cutT 2100 x.val = x.val) := Lib.hid (by rw [cutT, if_neg y1])
            have EX : Hid (fewIt x = ⟨(x.n.extract 0 120), x.val⟩) := Lib.hid (by rw [fewIt, E0.out, E1.out])
            go_wp2_with (at_builtin; refine wpList_snoc_itm _ rfl _ _ 26 68 Tryz.underlying26 rfl w.heap.size (wr.heap.size + 1) _ ((l.take i).map fewIt) ⟨(x.n.extract 0 120), x.val⟩ rfl rfl (cells_itm2 wr _ ⟨(x.n.extract 0 120), x.val⟩ 68) (World.ownsRow.alloc (World.ownsRow.alloc hown _) _) ?hb ?hl ?_; (case hb => simp; omega); (case hl => omega); intro v1 w2 h1 h2; have b1 := OwnI.grown (World.ownsRow.alloc (World.ownsRow.alloc hown _) _) ((hbel.alloc hs _).alloc (by simp; omega) _) (by simp; omega) h2; rw [← EX.out, ← HW.out] at h1; clear h2)
            go_roundw
            case rel => exact ⟨i + 1, by omega, by omega, by go_num, h1, b1⟩
            case measure => simp [intOf]; omega
        · have y0' : ¬ (120 : Int) < (x.n.size : Int) := by omega
          have E0 : Hid (cutT 120 x.n = x.n) := Lib.hid (by rw [cutT, if_neg y0])
          by_cases y1 : 2100 < x.val.size
          · have y1' : (2100 : Int) < (x.val.size : Int) := by omega
            have E1 : Hid (cutT 2100 x.val = x.val.extract 0 2100) := Lib.hid (by rw [cutT, if_pos y1])
            have EX : Hid (fewIt x = ⟨x.n, (x.val.extract 0 2100)⟩) := Lib.hid (by rw [fewIt, E0.out, E1.out])
            go_wp2_with (at_builtin; refine wpList_snoc_itm _ rfl _ _ 26 68 Tryz.underlying26 rfl w.heap.size (wr.heap.size + 1) _ ((l.take i).map fewIt) ⟨x.n, (x.val.extract 0 2100)⟩ rfl rfl (cells_itm2 wr _ ⟨x.n, (x.val.extract 0 2100)⟩ 68) (World.ownsRow.alloc (World.ownsRow.alloc hown _) _) ?hb ?hl ?_; (case hb => simp; omega); (case hl => omega); intro v1 w2 h1 h2; have b1 := OwnI.grown (World.ownsRow.alloc (World.ownsRow.alloc hown _) _) ((hbel.alloc hs _).alloc (by simp; omega) _) (by simp; omega) h2; rw [← EX.out, ← HW.out] at h1; clear h2)
            go_roundw
            case rel => exact ⟨i + 1, by omega, by omega, by go_num, h1, b1⟩
            case measure => simp [intOf]; omega
          · have y1' : ¬ (2100 : Int) < (x.val.size : Int) := by omega
            have E1 : Hid (cutT 2100 x.val = x.val) := Lib.hid (by rw [cutT, if_neg y1])
            have EX : Hid (fewIt x = ⟨x.n, x.val⟩) := Lib.hid (by rw [fewIt, E0.out, E1.out])
            go_wp2_with (at_builtin; refine wpList_snoc_itm _ rfl _ _ 26 68 Tryz.underlying26 rfl w.heap.size (wr.heap.size + 1) _ ((l.take i).map fewIt) ⟨x.n, x.val⟩ rfl rfl (cells_itm2 wr _ ⟨x.n, x.val⟩ 68) (World.ownsRow.alloc (World.ownsRow.alloc hown _) _) ?hb ?hl ?_; (case hb => simp; omega); (case hl => omega); intro v1 w2 h1 h2; have b1 := OwnI.grown (World.ownsRow.alloc (World.ownsRow.alloc hown _) _) ((hbel.alloc hs _).alloc (by simp; omega) _) (by simp; omega) h2; rw [← EX.out, ← HW.out] at h1; clear h2)
            go_roundw
            case rel => exact ⟨i + 1, by omega, by omega, by go_num, h1, b1⟩
            case measure => simp [intOf]; omega
      · have HW : Hid (fewIs l = (l.take i).map fewIt) := Lib.hid (by rw [fewIs, show i = 60 by omega])
        have h2 : ¬ (i : Int) < 60 := by omega
        go_wp2
        go_ret
        exact ⟨_, rfl, by rw [HW.out]; exact hown, hbel⟩
    · have HW : Hid (fewIs l = (l.take i).map fewIt) := Lib.hid (by rw [fewIs, List.take_of_length_le (by omega), List.take_of_length_le (by omega)])
      have h2 : ¬ (i : Int) < (l.length : Int) := by omega
      go_wp2
      go_ret
      exact ⟨_, rfl, by rw [HW.out]; exact hown, hbel⟩

def fewCh (x : Chg) : Chg := ⟨cutT 120 x.n, cutT 2100 x.val, x.gone⟩
def fewCs (l : List Chg) : List Chg := (l.take 60).map fewCh
theorem fewCs_ok {l : List Chg} : ∀ x ∈ fewCs l, x.n.size ≤ 120 ∧ x.val.size ≤ 2100 := by
  intro x hx
  obtain ⟨y, -, rfl⟩ := List.mem_map.1 hx
  exact ⟨cutT_size _ (by omega), cutT_size _ (by omega)⟩
theorem fewCs_len (l : List Chg) : (fewCs l).length ≤ 60 := by rw [fewCs, List.length_map, List.length_take]; omega
theorem fewCs_take (l : List Chg) (i : Nat) (h : i < l.length) : (l.take (i + 1)).map fewCh = (l.take i).map fewCh ++ [fewCh l[i]] := by
  rw [List.take_succ_eq_append_getElem h, List.map_append]; rfl
theorem cells_chg2 (w : World) (o : Obj) (x : Chg) (t : TypeId) : ∀ j u, (hcl x)[j]? = some u → ((w.alloc o).alloc (.cells (hcl x).toArray t)).cell? ((⟨w.heap.size + 1, 0, none⟩ : Addr).add j) = some u := by
  have h := cells_onechg (w.alloc o) x t
  rw [World.size_alloc] at h
  exact h
set_option maxHeartbeats 4000000 in
theorem fewCs_any (l : List Chg) (v : Value) (w : World) (hl : l.length ≤ maxLen) (ht : Chgs w w.heap.size v l) :
    Calls Tryz.prog 21 #[v] w fun e w' => ∃ v', e = .returned v' ∧ OwnH w.heap.size w' v' (fewCs l) ∧ Q w w' := by
  obtain ⟨A, c, rfl, -, -, hok, hcells⟩ := ht
  unfold maxLen at hl
  have HC := Lib.hid hcells
  have HK := Lib.hid hok
  clear hcells hok
  go_enter Tryz.func21, Tryz.ntmps21
  go_wp2_with fail
  go_loopw [3, 4] (fun O I wr => ∃ i : Nat, i ≤ l.length ∧ i ≤ 60 ∧ I = .int .i64 i ∧ OwnH w.heap.size wr O ((l.take i).map fewCh) ∧ Below w.heap.size w wr) (fun _ I _ => 60 - (intOf I).toNat)
  case atStart => exact ⟨0, Nat.zero_le _, by omega, rfl, OwnH.nil _ _, Below.refl _ _⟩
  case round =>
    obtain ⟨i, hil, hi60, rfl, hown, hbel⟩ := hrel
    by_cases hlt : i < l.length
    · by_cases h60 : i < 60
      · obtain ⟨a, rfl, ha, hat⟩ := HC.out i hlt
        obtain ⟨c0, c1, c2⟩ := hat.keep (by rw [add_block]; exact ha) fun _ hp => hbel.cell hp
        clear hat
        have HW := Lib.hid (fewCs_take l i hlt)
        have hx0 := HK.out _ (List.getElem_mem hlt)
        have hlen : ((l.take i).map fewCh).length ≤ 60 := by rw [List.length_map, List.length_take]; omega
        obtain ⟨x, hx⟩ : ∃ x, x = l[i] := ⟨_, rfl⟩
        rw [← hx] at c0 c1 c2 HW hx0
        clear hx
        have hs := hbel.size
        obtain ⟨z0, z1, -⟩ := hx0
        unfold maxLen at z0 z1
        by_cases y0 : 120 < x.n.size
        · have y0' : (120 : Int) < (x.n.size : Int) := by omega
          have E0 : Hid (cutT 120 x.n = x.n.extract 0 120) := Lib.hid (by rw [cutT, if_pos y0])
          by_cases y1 : 2100 < x.val.size
          · have y1' : (2100 : Int) < (x.val.size : Int) := by omega
            have E1 : Hid (cutT 2100 x.val = x.val.extract 0 2100) := Lib.hid (by rw [cutT, if_pos y1])
            have EX : Hid (fewCh x = ⟨(x.n.extract 0 120), (x.val.extract 0 2100), x.gone⟩) := Lib.hid (by rw [fewCh, E0.out, E1.out])
            go_wp2_with (at_builtin; refine wpList_snoc_chg _ rfl _ _ 40 72 Tryz.underlying40 rfl w.heap.size (wr.heap.size + 1) _ ((l.take i).map fewCh) ⟨(x.n.extract 0 120), (x.val.extract 0 2100), x.gone⟩ rfl rfl (cells_chg2 wr _ ⟨(x.n.extract 0 120), (x.val.extract 0 2100), x.gone⟩ 72) (World.ownsRow.alloc (World.ownsRow.alloc hown _) _) ?hb ?hl ?_; (case hb => simp; omega); (case hl => omega); intro v1 w2 h1 h2; have b1 := OwnH.grown (World.ownsRow.alloc (World.ownsRow.alloc hown _) _) ((hbel.alloc hs _).alloc (by simp; omega) _) (by simp; omega) h2; rw [← EX.out, ← HW.out] at h1; clear h2)
            go_roundw
            case rel => exact ⟨i + 1, by omega, by omega, by go_num, h1, b1⟩
            case measure => simp [intOf]; omega
          · have y1' : ¬ (2100 : Int) < (x.val.size : Int) := by omega
            have E1 : Hid (cutT 2100 x.val = x.val) := Lib.hid (by rw [cutT, if_neg y1])
            have EX : Hid (fewCh x = ⟨(x.n.extract 0 120), x.val, x.gone⟩) := Lib.hid (by rw [fewCh, E0.out, E1.out])
            go_wp2_with (at_builtin; refine wpList_snoc_chg _ rfl _ _ 40 72 Tryz.underlying40 rfl w.heap.size (wr.heap.size + 1) _ ((l.take i).map fewCh) ⟨(x.n.extract 0 120), x.val, x.gone⟩ rfl rfl (cells_chg2 wr _ ⟨(x.n.extract 0 120), x.val, x.gone⟩ 72) (World.ownsRow.alloc (World.ownsRow.alloc hown _) _) ?hb ?hl ?_; (case hb => simp; omega); (case hl => omega); intro v1 w2 h1 h2; have b1 := OwnH.grown (World.ownsRow.alloc (World.ownsRow.alloc hown _) _) ((hbel.alloc hs _).alloc (by simp; omega) _) (by simp; omega) h2; rw [← EX.out, ← HW.out] at h1; clear h2)
            go_roundw
            case rel => exact ⟨i + 1, by omega, by omega, by go_num, h1, b1⟩
            case measure => simp [intOf]; omega
        · have y0' : ¬ (120 : Int) < (x.n.size : Int) := by omega
          have E0 : Hid (cutT 120 x.n = x.n) := Lib.hid (by rw [cutT, if_neg y0])
          by_cases y1 : 2100 < x.val.size
          · have y1' : (2100 : Int) < (x.val.size : Int) := by omega
            have E1 : Hid (cutT 2100 x.val = x.val.extract 0 2100) := Lib.hid (by rw [cutT, if_pos y1])
            have EX : Hid (fewCh x = ⟨x.n, (x.val.extract 0 2100), x.gone⟩) := Lib.hid (by rw [fewCh, E0.out, E1.out])
            go_wp2_with (at_builtin; refine wpList_snoc_chg _ rfl _ _ 40 72 Tryz.underlying40 rfl w.heap.size (wr.heap.size + 1) _ ((l.take i).map fewCh) ⟨x.n, (x.val.extract 0 2100), x.gone⟩ rfl rfl (cells_chg2 wr _ ⟨x.n, (x.val.extract 0 2100), x.gone⟩ 72) (World.ownsRow.alloc (World.ownsRow.alloc hown _) _) ?hb ?hl ?_; (case hb => simp; omega); (case hl => omega); intro v1 w2 h1 h2; have b1 := OwnH.grown (World.ownsRow.alloc (World.ownsRow.alloc hown _) _) ((hbel.alloc hs _).alloc (by simp; omega) _) (by simp; omega) h2; rw [← EX.out, ← HW.out] at h1; clear h2)
            go_roundw
            case rel => exact ⟨i + 1, by omega, by omega, by go_num, h1, b1⟩
            case measure => simp [intOf]; omega
          · have y1' : ¬ (2100 : Int) < (x.val.size : Int) := by omega
            have E1 : Hid (cutT 2100 x.val = x.val) := Lib.hid (by rw [cutT, if_neg y1])
            have EX : Hid (fewCh x = ⟨x.n, x.val, x.gone⟩) := Lib.hid (by rw [fewCh, E0.out, E1.out])
            go_wp2_with (at_builtin; refine wpList_snoc_chg _ rfl _ _ 40 72 Tryz.underlying40 rfl w.heap.size (wr.heap.size + 1) _ ((l.take i).map fewCh) ⟨x.n, x.val, x.gone⟩ rfl rfl (cells_chg2 wr _ ⟨x.n, x.val, x.gone⟩ 72) (World.ownsRow.alloc (World.ownsRow.alloc hown _) _) ?hb ?hl ?_; (case hb => simp; omega); (case hl => omega); intro v1 w2 h1 h2; have b1 := OwnH.grown (World.ownsRow.alloc (World.ownsRow.alloc hown _) _) ((hbel.alloc hs _).alloc (by simp; omega) _) (by simp; omega) h2; rw [← EX.out, ← HW.out] at h1; clear h2)
            go_roundw
            case rel => exact ⟨i + 1, by omega, by omega, by go_num, h1, b1⟩
            case measure => simp [intOf]; omega
      · have HW : Hid (fewCs l = (l.take i).map fewCh) := Lib.hid (by rw [fewCs, show i = 60 by omega])
        have h2 : ¬ (i : Int) < 60 := by omega
        go_wp2
        go_ret
        exact ⟨_, rfl, by rw [HW.out]; exact hown, hbel⟩
    · have HW : Hid (fewCs l = (l.take i).map fewCh) := Lib.hid (by rw [fewCs, List.take_of_length_le (by omega), List.take_of_length_le (by omega)])
      have h2 : ¬ (i : Int) < (l.length : Int) := by omega
      go_wp2
      go_ret
      exact ⟨_, rfl, by rw [HW.out]; exact hown, hbel⟩
end Go.Proofs.YtbilnomafloopaaGreat
