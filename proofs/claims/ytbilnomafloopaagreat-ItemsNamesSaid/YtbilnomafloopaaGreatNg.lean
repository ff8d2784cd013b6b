/-
  Contracts of the program's TakeList (and its closure) and Whole. Contracts at the inputs of the chapter's examples: the empty depot, its one item, no item. The empty depot's one item; what the items of it, and no items, are put together to. What drafts of nothing, and of the empty depot's one item, are put together to. Contracts of drafted, Of and Build at the inputs of the chapter's examples.
-/
import Derived.Test.YtbilnomafloopaaGreatNf
import Derived.Laws.ResultCell
import Derived.Laws.Externs
import Derived.Lib.Bytealg
import Derived.Maps.RangeWalk
namespace Go.Proofs.YtbilnomafloopaaGreat
set_option maxRecDepth 100000
open Go.ChangeShapes Go.WideShapes Go.ChangeAt Go.RowKit
set_option linter.unusedVariables false
theorem info_str : (Tryz.prog.info? 9).map (fun i => (i.zero, i.size, i.bytes)) = some (some (.string ⟨#[]⟩), 1, 16) := by kernel_rfl
/-- What a round of the closure finds: the rest in one block, the list in another one. -/
def Inv (B g1 g2 : Nat) (w : World) (l : List ByteArray) (r : ByteArray) : Prop :=
  ∃ v, w.heap[g1]? = some (.cells #[.string r] 9 (0, 0)) ∧ w.heap[g2]? = some (.cells #[v] 85 (0, 0)) ∧ w.ownsRow (g2 + 1) 9 1 v l.length (l.map Value.string) ∧ B ≤ g1 ∧ g1 < g2
theorem Inv.on {B g1 g2 : Nat} {w w' : World} {l : List ByteArray} {r : ByteArray} (h : Inv B g1 g2 w l r) (q : Q w w') : Inv B g1 g2 w' l r := by
  obtain ⟨v, h1, h2, h3, h4, h5⟩ := h
  have l2 := lt_of_block h2
  refine ⟨v, (q.block g1 (by omega)).trans h1, (q.block g2 l2).trans h2, ?_, h4, h5⟩
  rcases h3.2 with ⟨rfl, h0⟩ | ⟨g, cap, cur, rfl, hb, hg, h6⟩
  · exact ⟨h3.1, .inl ⟨rfl, h0⟩⟩
  · exact ⟨h3.1, .inr ⟨g, cap, cur, rfl, hb, (q.block g (lt_of_block hg)).trans hg, h6⟩⟩
theorem own_form {w : World} {base : Nat} {e : TypeId} {v : Value} {n : Nat} {xs : List Value} (h : w.ownsRow base e 1 v (n + 1) xs) : ∃ g cap, v = .slice (some ⟨g, 0, none⟩) (n + 1) cap := by
  rcases h.2 with ⟨-, h0⟩ | ⟨g, cap, cur, rfl, -⟩
  · omega
  · exact ⟨g, cap, rfl⟩
theorem inv_step {B g1 g2 : Nat} {w1 w2 : World} {l : List ByteArray} {x b : ByteArray} {v v1 : Value} {o : Obj} {r : ByteArray}
    (h1 : w1.heap[g1]? = some (.cells #[.string r] 9 (0, 0))) (h2 : w1.heap[g2]? = some (.cells #[v] 85 (0, 0))) (h3 : w1.ownsRow (g2 + 1) 9 1 v l.length (l.map Value.string)) (h4 : B ≤ g1) (h5 : g1 < g2)
    (ho : w2.ownsRow (g2 + 1) 9 1 v1 (l.length + 1) (l.map Value.string ++ [Value.string x])) (hg : (w1.alloc o).grownBy w2 v.ownBlock) :
    (w2.heap[g1]? = some (.cells #[.string r] 9 (0, 0)) ∧ w2.heap[g2]? = some (.cells #[v] 85 (0, 0))) ∧
    Inv B g1 g2 ((w2.setCell ⟨g2, 0, none⟩ v1).setCell ⟨g1, 0, none⟩ (.string b)) (l ++ [x]) b ∧ Below B w1 ((w2.setCell ⟨g2, 0, none⟩ v1).setCell ⟨g1, 0, none⟩ (.string b)) := by
  have l1 := lt_of_block h1
  have l2 := lt_of_block h2
  have hrow : ∀ k, v.ownBlock = some k → g2 + 1 ≤ k := fun k hk => (World.ownsRow.lt h3 k hk).1
  have k1 : w2.heap[g1]? = some (.cells #[.string r] 9 (0, 0)) := (hg.block g1 (by simp; omega) (fun e => by have := hrow g1 e.symm; omega)).trans ((Below.heap_alloc w1 o g1 l1).trans h1)
  have k2 : w2.heap[g2]? = some (.cells #[v] 85 (0, 0)) := (hg.block g2 (by simp; omega) (fun e => by have := hrow g2 e.symm; omega)).trans ((Below.heap_alloc w1 o g2 l2).trans h2)
  refine ⟨⟨k1, k2⟩, ⟨v1, ?_, ?_, ?_, h4, h5⟩, ?_⟩
  · exact one_setCell ((Below.heap_setCell w2 ⟨g2, 0, none⟩ v1 g1 (by simp; omega)).trans k1)
  · exact (Below.heap_setCell _ ⟨g1, 0, none⟩ _ g2 (by simp; omega)).trans (one_setCell k2)
  · rw [List.length_append, List.length_singleton, List.map_append, List.map_singleton]
    exact ownsRow_setCell_below (ownsRow_setCell_below ho (by simp) v1) (by simp; omega) _
  · have b0 : Below B w1 w2 := ((Below.refl B w1).alloc (by omega) o).grown hg (by simp; omega) (fun k hk => by have := hrow k hk; omega)
    exact (b0.setCell (p := ⟨g2, 0, none⟩) (by simp; omega) v1).setCell (p := ⟨g1, 0, none⟩) (by simpa using h4) _
set_option maxHeartbeats 1000000 in
theorem next_bad (B g1 g2 : Nat) (l : List ByteArray) (r : ByteArray) (w : World) (hr : r.size ≤ 1000000000) (hi : Inv B g1 g2 w l r) {x b : ByteArray} {f : Nat} (h : tt r = (x, b, f)) (hf : 0 < f) :
    Calls Tryz.prog 199 #[.pointer (some ⟨g1, 0, none⟩), .pointer (some ⟨g2, 0, none⟩)] w fun e w' => e = .returned (.int .i64 f) ∧ Q w w' := by
  have HT := Lib.hid h
  clear h
  obtain ⟨v, h1, h2, h3, h4, h5⟩ := hi
  have c1 := cell_of_one h1
  have H1 := Lib.hid h1; have H2 := Lib.hid h2
  clear h1 h2
  have hf' : ¬ f = 0 := by omega
  go_enter Tryz.func199, Tryz.ntmps199
  go_wp2_with fail
  refine (takeText_any r w hr HT.out).mono ?_
  rintro e w1 ⟨rfl, q⟩
  go_wp2
  go_ret
  exact ⟨rfl, q⟩
set_option maxHeartbeats 1000000 in
theorem next_good (B g1 g2 : Nat) (l : List ByteArray) (r : ByteArray) (w : World) (hr : r.size ≤ 1000000000) (hl : l.length ≤ 1000000) (hi : Inv B g1 g2 w l r) {x b : ByteArray} (h : tt r = (x, b, 0)) :
    Calls Tryz.prog 199 #[.pointer (some ⟨g1, 0, none⟩), .pointer (some ⟨g2, 0, none⟩)] w fun e w' => e = .returned (.int .i64 0) ∧ Inv B g1 g2 w' (l ++ [x]) b ∧ Below B w w' := by
  obtain ⟨i0, hi0, hz0, hz1, hz2⟩ := info_parts info_str
  have HT := Lib.hid h
  clear h
  have HI := Lib.hid hi
  have c1 : w.cell? ⟨g1, 0, none⟩ = some (.string r) := by obtain ⟨v, h1, h2, h3, h4, h5⟩ := hi; exact cell_of_one h1
  have hB : B ≤ w.heap.size := by obtain ⟨v, h1, h2, h3, h4, h5⟩ := hi; have := lt_of_block h1; omega
  clear hi
  go_enter Tryz.func199, Tryz.ntmps199
  go_wp2_with fail
  refine (takeText_any r w hr HT.out).mono ?_
  rintro e w1 ⟨rfl, q⟩
  obtain ⟨v, h1, h2, h3, h4, h5⟩ := HI.out.on q
  have c2 := cell_of_one h2
  have l2 := lt_of_block h2
  have H1 := Lib.hid h1; have H2 := Lib.hid h2
  clear h1 h2 c1
  go_wp2_with (first | (at_builtin; refine wpList_append_own _ rfl _ _ 85 rfl (g2 + 1) 9 i0 (.string ⟨#[]⟩) 1 16 Tryz.underlying85 hi0 hz0 hz1 hz2 rfl (by decide) v l.length (l.map Value.string) rfl (World.ownsRow.alloc h3 _) ⟨w1.heap.size, 0, none⟩ 1 1 [.string x] rfl rfl (cell_oneZ _ _ _) (by intro u hu; simp at hu; subst hu; rfl) (by unfold maxLen; omega) (by omega) (by simp; omega) ?_; intro v1 w2 ho hg _; obtain ⟨gg, cap, rfl⟩ := own_form ho; have R := inv_step (b := b) H1.out H2.out h3 h4 h5 ho hg; have RR := Lib.hid R.2; have d1 := cell_of_one R.1.2; have d2 := free_of_one R.1.2; have d3 := cell_of_one ((Below.heap_setCell w2 ⟨g2, 0, none⟩ (.slice (some ⟨gg, 0, none⟩) (l.length + 1) cap) g1 (by simp; omega)).trans R.1.1); have d4 := free_of_one ((Below.heap_setCell w2 ⟨g2, 0, none⟩ (.slice (some ⟨gg, 0, none⟩) (l.length + 1) cap) g1 (by simp; omega)).trans R.1.1); clear R ho hg))
  go_ret
  exact ⟨rfl, RR.out.1, (Below.mono q hB).trans RR.out.2⟩
/-- What is taken as so many texts, one behind the other. -/
def tl : Nat → ByteArray → List ByteArray × ByteArray × Nat
  | 0, s => ([], s, 0)
  | k + 1, s => if (tt s).2.2 = 0 then (if (tl k (tt s).2.1).2.2 = 0 then ((tt s).1 :: (tl k (tt s).2.1).1, (tl k (tt s).2.1).2.1, 0) else ([], ⟨#[]⟩, (tl k (tt s).2.1).2.2)) else ([], ⟨#[]⟩, (tt s).2.2)
/-- What is told, if some texts are there already. -/
def ahead (g : List ByteArray) (r : List ByteArray × ByteArray × Nat) : List ByteArray × ByteArray × Nat := if r.2.2 = 0 then (g ++ r.1, r.2.1, 0) else ([], ⟨#[]⟩, r.2.2)
theorem ahead_nil (k : Nat) (s : ByteArray) : ahead [] (tl k s) = tl k s := by
  unfold ahead
  split
  · rename_i h; rw [List.nil_append, ← h]
  · rename_i h
    cases k with
    | zero => exact absurd rfl h
    | succ k =>
      unfold tl at h ⊢
      split
      · rename_i a
        rw [if_pos a] at h
        split
        · rename_i b; rw [if_pos b] at h; exact absurd rfl h
        · rfl
      · rfl
theorem ahead_step {g : List ByteArray} {k : Nat} {s x b : ByteArray} (h : tt s = (x, b, 0)) : ahead g (tl (k + 1) s) = ahead (g ++ [x]) (tl k b) := by
  unfold ahead
  rw [tl, h]
  simp only [if_true]
  by_cases q : (tl k b).2.2 = 0
  · simp [q]
  · simp [q]
theorem ahead_bad {g : List ByteArray} {k : Nat} {s x b : ByteArray} {f : Nat} (h : tt s = (x, b, f)) (hf : ¬ f = 0) : ahead g (tl (k + 1) s) = ([], ⟨#[]⟩, f) := by
  unfold ahead
  rw [tl, h]
  simp [hf]
theorem tt_size (s : ByteArray) : (tt s).2.1.size ≤ s.size := by
  unfold tt
  split
  · exact Nat.zero_le _
  · split
    · exact Nat.zero_le _
    · split
      · exact Nat.zero_le _
      · rw [size_cut _ (Nat.le_refl _)]; omega
/-- What is taken as a list: it, what is behind, and the error's number. -/
def tls (s : ByteArray) : List ByteArray × ByteArray × Nat := if (tc s).2.2 = 0 then tl (tc s).1 (tc s).2.1 else ([], ⟨#[]⟩, (tc s).2.2)
/-- What TakeList leaves: the list as a slice, and the rest. -/
def TookP (w : World) (r : List ByteArray × ByteArray × Nat) (e : Ending) (w' : World) : Prop :=
  ∃ A n c, e = .returned (.tuple #[.slice A n c, .string r.2.1, .int .i64 (r.2.2 : Nat)]) ∧ Txts w' w'.heap.size (.slice A n c) r.1 ∧ Q w w'
theorem tc_size (s : ByteArray) : (tc s).2.1.size ≤ s.size ∧ (tc s).1 ≤ 4000 := by
  unfold tc
  split
  · exact ⟨Nat.zero_le _, by simp⟩
  · split
    · exact ⟨Nat.zero_le _, by simp⟩
    · rw [size_cut _ (Nat.le_refl _)]; exact ⟨by omega, by simp; omega⟩
theorem own_slice {w : World} {base : Nat} {e : TypeId} {v : Value} {n : Nat} {xs : List Value} (h : w.ownsRow base e 1 v n xs) : ∃ A m c, v = .slice A m c := by
  rcases h.2 with ⟨rfl, h0⟩ | ⟨g, cap, cur, rfl, -⟩
  · exact ⟨_, _, _, rfl⟩
  · exact ⟨_, _, _, rfl⟩
theorem inv_start (w w1 : World) (r : ByteArray) (q : Q w w1) : Inv w.heap.size w1.heap.size (w1.heap.size + 1) ((w1.alloc (Obj.cells #[Value.string r] 9)).alloc (Obj.cells #[Value.slice none 0 0] 85)) [] r ∧
    Below w.heap.size w ((w1.alloc (Obj.cells #[Value.string r] 9)).alloc (Obj.cells #[Value.slice none 0 0] 85)) := by
  refine ⟨⟨.slice none 0 0, ?_, ?_, World.ownsRow_nil _ _ _ _, q.size, by omega⟩, (q.alloc _).alloc _⟩
  · exact (Below.heap_alloc _ _ _ (by simp)).trans (heap_alloc_new w1 _)
  · have := heap_alloc_new (w1.alloc (Obj.cells #[Value.string r] 9)) (Obj.cells #[Value.slice none 0 0] 85)
    simpa using this
set_option maxHeartbeats 2000000 in
theorem takeList_any (s : ByteArray) (w : World) (hs : s.size ≤ 1000000000) :
    Calls Tryz.prog 173 #[.string s] w (TookP w (tls s)) := by
  obtain ⟨⟨n, r, f⟩, htc⟩ : ∃ x, tc s = x := ⟨_, rfl⟩
  have hsz := tc_size s
  have HT := Lib.hid htc
  have HS : Hid (tls s = if f = 0 then tl n r else ([], ⟨#[]⟩, f)) := Lib.hid (by rw [tls, htc])
  rw [htc] at hsz
  obtain ⟨hr, hn⟩ : r.size ≤ s.size ∧ n ≤ 4000 := hsz
  clear htc
  by_cases hf : f = 0
  · subst hf
    go_enter Tryz.func173, Tryz.ntmps173
    go_wp2_with fail
    refine (cutCount_any s w hs HT.out).mono ?_
    rintro e w1 ⟨rfl, q⟩
    obtain ⟨hinv, hbel⟩ := inv_start w w1 r q
    have HI := Lib.hid hinv; have HB := Lib.hid hbel
    clear hinv hbel
    obtain ⟨G, hG⟩ : ∃ G, G = w1.heap.size := ⟨_, rfl⟩
    have HG := Lib.hid hG
    clear hG
    go_wp2_with fail
    go_loopw [10, 22] (fun _ i wr => ∃ (j : Nat) (g : List ByteArray) (x : ByteArray), j ≤ n ∧ g.length ≤ j ∧ x.size ≤ s.size ∧ i = .int .i64 j ∧ Inv w.heap.size w1.heap.size (w1.heap.size + 1) wr g x ∧ Below w.heap.size w wr ∧ Hid (tls s = ahead g (tl (n - j) x))) (fun _ i _ => n - (intOf i).toNat)
    case atStart => exact ⟨0, [], r, Nat.zero_le _, Nat.zero_le _, hr, rfl, HI.out, HB.out, Lib.hid (by rw [HS.out, ahead_nil]; simp)⟩
    case round =>
      clear HI HB
      obtain ⟨j, g, x, hj, hg, hx, rfl, hinv, hbel, HA⟩ := hrel
      by_cases hlt : j < n
      · obtain ⟨⟨y, b, f⟩, htt⟩ : ∃ z, tt x = z := ⟨_, rfl⟩
        have HY := Lib.hid htt
        have hb := tt_size x
        rw [htt] at hb
        have hb' : b.size ≤ s.size := Nat.le_trans hb hx
        clear htt hb
        by_cases hf : f = 0
        · subst hf
          go_wp2_with fail
          refine (next_good _ _ _ g x wr (by omega) (by omega) hinv HY.out).mono ?_
          rintro e w2 ⟨rfl, hinv2, hbel2⟩
          go_wp2_with fail
          go_roundw
          case rel => exact ⟨j + 1, g ++ [y], b, by omega, by rw [List.length_append, List.length_singleton]; omega, hb', by go_num, hinv2, hbel.trans hbel2, Lib.hid (by rw [HA.out, show n - j = (n - (j + 1)) + 1 by omega, ahead_step HY.out])⟩
          case measure => simp [intOf]; omega
        · have HE : Hid (tls s = ([], ⟨#[]⟩, f)) := Lib.hid (by rw [HA.out, show n - j = (n - (j + 1)) + 1 by omega, ahead_bad HY.out hf])
          go_wp2_with fail
          refine (next_bad _ _ _ g x wr (by omega) hinv HY.out (by omega)).mono ?_
          rintro e w2 ⟨rfl, q2⟩
          go_wp2_with fail
          go_ret3
          exact ⟨none, 0, 0, by rw [HE.out]; rfl, by rw [HE.out]; exact Txts.nil _ _, Q.trans hbel q2⟩
      · have HE : Hid (tls s = (g, x, 0)) := Lib.hid (by rw [HA.out, show n - j = 0 by omega, tl]; simp [ahead])
        obtain ⟨v, h1, h2, h3, h4, h5⟩ := hinv
        obtain ⟨A, m, c, rfl⟩ := own_slice h3
        have ht := Lib.hid (Txts.own h3)
        have c1 := cell_of_one h1
        have c2 := cell_of_one h2
        clear h1 h2 h3
        go_wp2_with fail
        go_region
        go_wp2
        go_ret3
        exact ⟨A, m, c, by rw [HE.out]; rfl, by rw [HE.out]; exact ht.out, hbel.drew⟩
  · go_enter Tryz.func173, Tryz.ntmps173
    go_wp2_with fail
    refine (cutCount_any s w hs HT.out).mono ?_
    rintro e w1 ⟨rfl, q⟩
    go_wp2
    go_ret3
    refine ⟨none, 0, 0, by rw [HS.out, if_neg hf]; rfl, by rw [HS.out, if_neg hf]; exact Txts.nil _ _, q.alloc _⟩
/-- The list that octets are, to their end, and the error's number. -/
def whl (s : ByteArray) : List ByteArray × Nat := if (tls s).2.2 = 0 then (if (tls s).2.1.size = 0 then ((tls s).1, 0) else ([], 2)) else ([], (tls s).2.2)
def WholeP (w : World) (r : List ByteArray × Nat) (e : Ending) (w' : World) : Prop :=
  ∃ A n c, e = .returned (.tuple #[.slice A n c, .int .i64 (r.2 : Nat)]) ∧ Txts w' w'.heap.size (.slice A n c) r.1 ∧ Q w w'
theorem nil_of {s : ByteArray} (h : s.size = 0) : s.toList = [] := (nil_text s).2 h
theorem not_nil {s : ByteArray} (h : ¬ s.size = 0) : ¬ s.toList = [] := fun e => h ((nil_text s).1 e)
theorem not_empty {s : ByteArray} (h : ¬ s.size = 0) : (!s.toList.isEmpty) = true := by simp [not_nil h]
set_option maxHeartbeats 1000000 in
theorem whole_anyZ (s : ByteArray) (w : World) (hs : s.size ≤ 1000000000) :
    Calls Tryz.prog 116 #[.string s] w (WholeP w (whl s)) := by
  have HW : Hid (whl s = if (tls s).2.2 = 0 then (if (tls s).2.1.size = 0 then ((tls s).1, 0) else ([], 2)) else ([], (tls s).2.2)) := Lib.hid rfl
  have HT := Lib.hid (takeList_any s w hs)
  obtain ⟨⟨l, r, f⟩, htl⟩ : ∃ x, tls s = x := ⟨_, rfl⟩
  rw [htl] at HW HT
  clear htl
  by_cases hf : f = 0
  · subst hf
    by_cases hr : r.size = 0
    · have hr' := nil_of hr
      have HE : Hid (whl s = (l, 0)) := Lib.hid (by rw [HW.out, if_pos rfl, if_pos hr])
      have HR := Lib.hid hr
      clear hr
      go_enter Tryz.func116, Tryz.ntmps116
      go_wp2_with fail
      refine HT.out.mono ?_
      rintro e w1 ⟨A, n, c, rfl, ht, q⟩
      go_wp2
      go_ret2
      exact ⟨A, n, c, by rw [HE.out]; rfl, by rw [HE.out]; exact ht, q⟩
    · have hr' := not_nil hr
      have hr2 := not_empty hr
      have HE : Hid (whl s = ([], 2)) := Lib.hid (by rw [HW.out, if_pos rfl, if_neg hr])
      go_enter Tryz.func116, Tryz.ntmps116
      go_wp2_with fail
      refine HT.out.mono ?_
      rintro e w1 ⟨A, n, c, rfl, ht, q⟩
      go_wp2
      go_ret2
      exact ⟨none, 0, 0, by rw [HE.out]; rfl, by rw [HE.out]; exact Txts.nil _ _, q⟩
  · have HE : Hid (whl s = ([], f)) := Lib.hid (by rw [HW.out, if_neg hf])
    go_enter Tryz.func116, Tryz.ntmps116
    go_wp2_with fail
    refine HT.out.mono ?_
    rintro e w1 ⟨A, n, c, rfl, ht, q⟩
    go_wp2
    go_ret2
    exact ⟨none, 0, 0, by rw [HE.out]; rfl, by rw [HE.out]; exact Txts.nil _ _, q⟩
end Go.Proofs.YtbilnomafloopaaGreat

namespace Go.Proofs.YtbilnomafloopaaGreat
set_option maxRecDepth 100000
open Go.ChangeShapes Go.WideShapes Go.ChangeAt Go.RowKit
set_option linter.unusedVariables false
set_option linter.unusedSimpArgs false
set_option maxHeartbeats 2000000 in
theorem check0_any (w : World) : Calls Tryz.prog 30 #[.agg #[.int .i64 0, .slice none 0 0]] w fun e w' => e = .returned (.int .i64 0) ∧ Q w w' := by
  have q0 := (Q.refl w).alloc (.cells #[.int .i64 0, .slice none 0 0] 24)
  obtain ⟨W0, hW0⟩ : ∃ z, z = w.alloc (.cells #[.int .i64 0, .slice none 0 0] 24) := ⟨_, rfl⟩
  rw [← hW0] at q0
  go_enter Tryz.func30, Tryz.ntmps30
  go_wp2_with fail
  rw [← hW0]
  clear hW0
  go_loopw [23] (fun I wr => I = .int .i64 0 ∧ Q w wr) (fun _ _ => 0)
  case atStart => exact ⟨rfl, q0⟩
  case round =>
    obtain ⟨rfl, q⟩ := hrel
    go_wp2_with fail
    go_ret
    exact ⟨rfl, q⟩
set_option maxHeartbeats 2000000 in
theorem same0_any (w : World) : Calls Tryz.prog 18 #[.agg #[.int .i64 0, .slice none 0 0], .agg #[.int .i64 0, .slice none 0 0]] w fun e w' => e = .returned (.bool true) ∧ Q w w' := by
  have q0 := ((Q.refl w).alloc (.cells #[.int .i64 0, .slice none 0 0] 24)).alloc (.cells #[.int .i64 0, .slice none 0 0] 24)
  have b0 : ((w.alloc (.cells #[.int .i64 0, .slice none 0 0] 24)).alloc (.cells #[.int .i64 0, .slice none 0 0] 24)).cell? ⟨w.heap.size, 1, none⟩ = some (.slice none 0 0) := by simp
  obtain ⟨W0, hW0⟩ : ∃ z, z = (w.alloc (.cells #[.int .i64 0, .slice none 0 0] 24)).alloc (.cells #[.int .i64 0, .slice none 0 0] 24) := ⟨_, rfl⟩
  rw [← hW0] at q0 b0
  go_enter Tryz.func18, Tryz.ntmps18
  go_wp2_with fail
  rw [← hW0]
  clear hW0
  go_loopw [5] (fun I wr => I = .int .i64 0 ∧ Q w wr ∧ wr.cell? ⟨w.heap.size, 1, none⟩ = some (.slice none 0 0)) (fun _ _ => 0)
  case atStart => exact ⟨rfl, q0, b0⟩
  case round =>
    obtain ⟨rfl, q, b1⟩ := hrel
    clear q0 b0
    go_wp2_with fail
    go_ret
    exact ⟨rfl, q⟩
set_option maxHeartbeats 2000000 in
theorem laid_any (name : ByteArray) (l : List ByteArray) (v : Value) (w : World) (hok : okLZ l = true) (hs : ∀ s ∈ l, s.size ≤ 5000) (hl : l.length ≤ 1000000) (ht : Txts w w.heap.size v l) :
    Calls Tryz.prog 31 #[.string name, v] w fun e w' => e = .returned (itm ⟨name, mk (lst l)⟩) ∧ Q w w' := by
  have C := Lib.hid (fun (x : World) (q : Q w x) => list_any l v x hl hs (ht.on q))
  rw [lstV_yes hok] at C
  have b0 := Bx.new w 68 #[.string ⟨#[]⟩, .string ⟨#[]⟩]
  have q0 := (Q.refl w).alloc (.cells #[.string ⟨#[]⟩, .string ⟨#[]⟩] 68)
  clear ht
  rw [itm]
  go_enter Tryz.func31, Tryz.ntmps31
  go_wp2_with fail
  refine (C.out _ q0).mono ?_
  rintro e w1 ⟨rfl, q1⟩
  have bb := b0.on q1
  have c0 := bb.cell 0
  have c1 := bb.cell 1
  have f0 := bb.frozen 0
  have f1 := bb.frozen 1
  simp only [List.getElem?_toArray, List.getElem?_cons_zero, List.getElem?_cons_succ] at c0 c1
  have hlt := bb.lt
  clear C b0
  go_wp2_with fail
  have bs := (bb.set 0 (.string name)).set 1 (.string (mk (lst l)))
  have k0 := bs.cell 0
  have k1 := bs.cell 1
  refine bodyPost_ret (v := .agg #[.string name, .string (mk (lst l))]) ?_ rfl ⟨rfl, ?_⟩
  · simp [results, Tryz.results31, go_sem] at k0 k1 ⊢
    simp [k0, k1]
  · exact Q.set (Q.set (q0.trans q1) (Nat.le_refl _) _) (Nat.le_refl _) _
set_option maxHeartbeats 2000000 in
theorem inum_any (s : ByteArray) (w : World) (hs : s.size ≤ 1000000) : Calls Tryz.prog 118 #[.string s] w fun e w' => e = .returned (.int .u64 ((tn s).1 : Nat)) ∧ Q w w' := by
  obtain ⟨n, b, f, h⟩ : ∃ n b f, tn s = (n, b, f) := ⟨_, _, _, rfl⟩
  have C := Lib.hid (takeNum_any s w (by omega) h)
  have hn : (tn s).1 = n := by rw [h]
  rw [hn]
  clear h hn
  go_enter Tryz.func118, Tryz.ntmps118
  go_wp2_with fail
  refine (C.out).mono ?_
  rintro e w1 ⟨rfl, q1⟩
  go_wp2_with fail
  go_ret
  exact ⟨rfl, q1⟩
theorem ibs_run (c : Int) (x : World) : (callFunc 254 #[.string ⟨#[]⟩, .int .u8 c]).run Tryz.prog x = .ok (.value (.int .i64 (-1))) x := by
  rw [run_callFunc_extern Tryz.func254 (by kernel_rfl) (by kernel_rfl) (by kernel_rfl) (e := Extern.BytealgIndexByte.indexByte) (by kernel_rfl), Lib.run_indexByteString]
  rfl
set_option maxHeartbeats 2000000 in
theorem idx0_any (w : World) : Calls Tryz.prog 201 #[.string ⟨#[]⟩, .string ⟨#[10]⟩] w fun e w' => e = .returned (.int .i64 (-1)) ∧ w' = w := by
  have hE := ibs_run
  go_enter Tryz.func201, Tryz.ntmps201
  go_wp2
  go_ret
  exact ⟨rfl, rfl⟩
set_option maxHeartbeats 2000000 in
theorem cutL0_any (w : World) : Calls Tryz.prog 174 #[.string ⟨#[]⟩, .string ⟨#[10]⟩] w fun e w' => e = .returned (.tuple #[.string ⟨#[]⟩, .string ⟨#[]⟩, .bool false]) ∧ w' = w := by
  have C := Lib.hid (idx0_any w)
  go_enter Tryz.func174, Tryz.ntmps174
  go_wp2_with fail
  refine (C.out).mono ?_
  rintro e w1 ⟨rfl, rfl⟩
  go_wp2_with fail
  go_ret3
  exact ⟨rfl, rfl⟩
set_option maxHeartbeats 2000000 in
theorem cut0_any (w : World) : Calls Tryz.prog 117 #[.string ⟨#[]⟩, .string ⟨#[10]⟩] w fun e w' => e = .returned (.tuple #[.string ⟨#[]⟩, .string ⟨#[]⟩, .bool false]) ∧ w' = w := by
  have C := Lib.hid (cutL0_any w)
  go_enter Tryz.func117, Tryz.ntmps117
  go_wp2_with fail
  refine (C.out).mono ?_
  rintro e w1 ⟨rfl, rfl⟩
  go_wp2_with fail
  go_ret3
  exact ⟨rfl, rfl⟩
end Go.Proofs.YtbilnomafloopaaGreat

namespace Go.Proofs.YtbilnomafloopaaGreat
set_option maxRecDepth 100000
open Go.ChangeShapes Go.WideShapes Go.ChangeAt Go.RowKit
set_option linter.unusedVariables false
set_option linter.unusedSimpArgs false
def valT : ByteArray := mk (lst [mk (oct 0 8)])
def itT : Itm := ⟨⟨#[116]⟩, valT⟩
theorem valT_whl : whl valT = ([mk (oct 0 8)], 0) := by kernel_rfl
theorem zero_tn : (tn (mk (oct 0 8))).1 = 0 := by kernel_rfl
theorem valT_size : valT.size ≤ 1000 := of_decide_eq_true (by kernel_rfl)
theorem oct_size : (mk (oct 0 8)).size ≤ 100 := of_decide_eq_true (by kernel_rfl)
theorem itT_ok : okIZ itT := ⟨by unfold maxLen; exact of_decide_eq_true (by kernel_rfl), by have := valT_size; unfold maxLen; show valT.size ≤ _; omega⟩
theorem run_range_g {t k el : TypeId} (ht : Tryz.prog.underlying t = some (.map k el)) (w : World) (b : Nat) (es : Array MapEntry) (clock : Nat) (hb : w.heap[b]? = some (.map es clock)) :
    (Instr.range t (.map (some b))).run Tryz.prog w = .ok (.pointer (some ⟨w.heap.size, 0, none⟩)) (w.alloc (.mapIter (some b) clock #[] clock)) := by
  simp [Instr.range, run_underlying ht, MapKept.run_getObj_map hb, Result.andThen]
theorem wpList_range_g {t k el : TypeId} (ht : Tryz.prog.underlying t = some (.map k el)) {ops : Array Oper} {rest : List Oper} {o : Oper} {a : Act} {Q : Exit → Act → World → Prop} (w : World) (hgd : o.guard = none) (m : Operand) (ho : o.op = .range t m)
    (b : Nat) (es : Array MapEntry) (clock : Nat) (hm : a.eval m = .map (some b)) (hb : w.heap[b]? = some (.map es clock))
    (hK : wpList Tryz.prog ops Q rest (a.put o.dst (.pointer (some ⟨w.heap.size, 0, none⟩))) (w.alloc (.mapIter (some b) clock #[] clock))) : wpList Tryz.prog ops Q (o :: rest) a w := by
  refine wpList_plain hgd fun K' hK' => ?_
  unfold Oper.wp
  simp [execOp, ho, hm, run_range_g ht w b es clock hb, Result.andThen]
  exact hK' _ _ hK
set_option maxHeartbeats 4000000 in
theorem take0_any (w : World) (P pa pb pc pd : Nat) (hb : Bx w P 138 #[.int .i64 0, .map (some pa), .map (some pb), .map (some pc), .map (some pd)]) :
    Calls Tryz.prog 75 #[.pointer (some ⟨P, 0, none⟩), .agg #[.string ⟨#[116]⟩, .string valT]] w fun e w' => e = .returned (.tuple #[]) ∧ Bx w' P 138 #[.int .i64 0, .map (some pa), .map (some pb), .map (some pc), .map (some pd)] ∧ Kp P w w' := by
  have C1 := Lib.hid (fun x => whole_anyZ valT x (by have := valT_size; omega))
  rw [valT_whl] at C1
  have C2 := Lib.hid (fun x => inum_any (mk (oct 0 8)) x (by have := oct_size; omega))
  rw [zero_tn] at C2
  have C3 := Lib.hid (fun x => cut0_any x)
  have q0 := (Q.refl w).alloc (.cells #[.string ⟨#[116]⟩, .string valT] 68)
  have n0 := Bx.new w 68 #[.string ⟨#[116]⟩, .string valT]
  have HB := Lib.hid hb
  obtain ⟨V, hV⟩ : ∃ V, V = valT := ⟨_, rfl⟩
  rw [← hV] at C1 q0 n0 ⊢
  clear hV hb
  have hx1 : (⟨#[116]⟩ : ByteArray).extract 0 1 = ⟨#[116]⟩ := by rfl
  have hx2 : (⟨#[116]⟩ : ByteArray).extract 1 1 = ⟨#[]⟩ := by rfl
  go_enter Tryz.func75, Tryz.ntmps75
  go_wp2_with fail
  refine (C1.out _).mono ?_
  rintro e w1 ⟨A, n, c, rfl, ht, q1⟩
  have n1 := n0.on q1
  have v0 := n1.cell 0
  have v1 := n1.cell 1
  simp only [List.getElem?_toArray, List.getElem?_cons_zero, List.getElem?_cons_succ] at v0 v1
  obtain ⟨A', c', e1, hc⟩ := ht
  injection e1 with e1 e2 e3
  subst e1 e2 e3
  obtain ⟨a, rfl, ha, hx⟩ := hc 0 (by simp)
  simp only [List.getElem_cons_zero, Nat.zero_mul] at hx
  have hx0 : w1.cell? a = some (.string (mk (oct 0 8))) := by have := hx; simpa [Addr.add] using this
  have HX := Lib.hid hx0
  have qq := q0.trans q1
  clear hc n0
  go_wp2_with fail
  go_region
  go_wp2_with fail
  refine (C3.out _).mono ?_
  rintro e w2 ⟨rfl, hw2⟩
  have q2 : Q w w2 := by rw [hw2]; exact qq.drew
  have hx3 : w2.cell? a = some (.string (mk (oct 0 8))) := by rw [hw2]; exact HX.out
  clear hw2 hx0 hx
  go_wp2_with fail
  refine (C2.out _).mono ?_
  rintro e w3 ⟨rfl, q3⟩
  have q4 := q2.trans q3
  have b3 := HB.out.on q4
  have f0 := b3.frozen 0
  have d0 := b3.cell 0
  simp only [List.getElem?_toArray, List.getElem?_cons_zero, List.getElem?_cons_succ] at d0
  have h00 : IntKind.i64.wrap (IntKind.u64.wrap 0) = 0 := by rfl
  go_wp2_with fail
  go_end0
  refine ⟨rfl, ?_, (Kp.of q4).set 0 _⟩
  have := b3.set 0 (.int .i64 0)
  simpa using this
end Go.Proofs.YtbilnomafloopaaGreat

namespace Go.Proofs.YtbilnomafloopaaGreat
set_option maxRecDepth 100000
open Go.ChangeShapes Go.WideShapes Go.ChangeAt Go.RowKit
set_option linter.unusedVariables false
set_option linter.unusedSimpArgs false
theorem left0 : (leftOf (#[] : Array MapEntry) #[]).size = 0 := by rfl
theorem left0_no {e : MapEntry} (h : e ∈ (leftOf (#[] : Array MapEntry) #[]).toList) : False := leftW_empty left0 h
set_option maxHeartbeats 2000000 in
theorem layV0 (w : World) (P pa pb pc pd : Nat) (hb : Bx w P 138 #[.int .i64 0, .map (some pa), .map (some pb), .map (some pc), .map (some pd)]) (hm : w.heap[pb]? = some (.map #[] 0)) :
    Calls Tryz.prog 121 #[.pointer (some ⟨P, 0, none⟩)] w fun e w' => e = .returned (.tuple #[]) ∧ Q w w' := by
  have d0 := hb.cell 2
  simp only [List.getElem?_toArray, List.getElem?_cons_zero, List.getElem?_cons_succ] at d0
  have it0 : (w.alloc (.mapIter (some pb) 0 #[] 0)).heap[w.heap.size]? = some (.mapIter (some pb) 0 #[] 0) := heap_new _ _
  have m0 := (((Q.refl w).alloc (.mapIter (some pb) 0 #[] 0)).block pb (lt_of_block hm)).trans hm
  have q0 := (Q.refl w).alloc (.mapIter (some pb) 0 #[] 0)
  obtain ⟨pi, hpi⟩ : ∃ z, z = w.heap.size := ⟨_, rfl⟩
  obtain ⟨y1, hy1⟩ : ∃ z, z = w.alloc (.mapIter (some pb) 0 #[] 0) := ⟨_, rfl⟩
  rw [← hy1] at it0 m0 q0
  rw [← hpi] at it0
  have HIT := Lib.hid it0
  have HM0 := Lib.hid m0
  have HQ0 := Lib.hid q0
  clear it0 m0 q0
  go_enter Tryz.func121, Tryz.ntmps121
  go_wp2_with (at_range; refine wpList_range_g Tryz.underlying134 _ rfl _ rfl _ _ _ rfl hm ?_)
  rw [← hy1, ← hpi]
  clear hy1 hpi hm d0
  (try simp only [Act.put, List.setIfInBounds_toArray, List.set_cons_zero, List.set_cons_succ])
  go_loopw [12] (fun _ wr => wr.heap[pi]? = some (.mapIter (some pb) 0 #[] 0) ∧ wr.heap[pb]? = some (.map #[] 0) ∧ Q w wr) (fun _ _ => 0)
  case atStart => exact ⟨HIT.out, HM0.out, HQ0.out⟩
  case round =>
    obtain ⟨hit, hmr, q⟩ := hrel
    clear HIT HM0 HQ0
    go_wp2_with (at_next; refine wpList_next_w _ rfl _ rfl _ _ _ _ _ _ _ rfl hit hmr (by simp) (Nat.le_refl _) (fun _ => ?_) (fun e he => (left0_no he).elim))
    go_end0
    exact ⟨rfl, q⟩
set_option maxHeartbeats 2000000 in
theorem layU0 (w : World) (P pa pb pc pd : Nat) (hb : Bx w P 138 #[.int .i64 0, .map (some pa), .map (some pb), .map (some pc), .map (some pd)]) (hm : w.heap[pc]? = some (.map #[] 0)) :
    Calls Tryz.prog 122 #[.pointer (some ⟨P, 0, none⟩)] w fun e w' => e = .returned (.tuple #[]) ∧ Q w w' := by
  have d0 := hb.cell 3
  simp only [List.getElem?_toArray, List.getElem?_cons_zero, List.getElem?_cons_succ] at d0
  have it0 : (w.alloc (.mapIter (some pc) 0 #[] 0)).heap[w.heap.size]? = some (.mapIter (some pc) 0 #[] 0) := heap_new _ _
  have m0 := (((Q.refl w).alloc (.mapIter (some pc) 0 #[] 0)).block pc (lt_of_block hm)).trans hm
  have q0 := (Q.refl w).alloc (.mapIter (some pc) 0 #[] 0)
  obtain ⟨pi, hpi⟩ : ∃ z, z = w.heap.size := ⟨_, rfl⟩
  obtain ⟨y1, hy1⟩ : ∃ z, z = w.alloc (.mapIter (some pc) 0 #[] 0) := ⟨_, rfl⟩
  rw [← hy1] at it0 m0 q0
  rw [← hpi] at it0
  have HIT := Lib.hid it0
  have HM0 := Lib.hid m0
  have HQ0 := Lib.hid q0
  clear it0 m0 q0
  go_enter Tryz.func122, Tryz.ntmps122
  go_wp2_with (at_range; refine wpList_range_g Tryz.underlying135 _ rfl _ rfl _ _ _ rfl hm ?_)
  rw [← hy1, ← hpi]
  clear hy1 hpi hm d0
  (try simp only [Act.put, List.setIfInBounds_toArray, List.set_cons_zero, List.set_cons_succ])
  go_loopw [12] (fun _ wr => wr.heap[pi]? = some (.mapIter (some pc) 0 #[] 0) ∧ wr.heap[pc]? = some (.map #[] 0) ∧ Q w wr) (fun _ _ => 0)
  case atStart => exact ⟨HIT.out, HM0.out, HQ0.out⟩
  case round =>
    obtain ⟨hit, hmr, q⟩ := hrel
    clear HIT HM0 HQ0
    go_wp2_with (at_next; refine wpList_next_w _ rfl _ rfl _ _ _ _ _ _ _ rfl hit hmr (by simp) (Nat.le_refl _) (fun _ => ?_) (fun e he => (left0_no he).elim))
    go_end0
    exact ⟨rfl, q⟩
set_option maxHeartbeats 4000000 in
theorem depot0_any (w : World) (P pa pb pc pd : Nat) (hb : Bx w P 138 #[.int .i64 0, .map (some pa), .map (some pb), .map (some pc), .map (some pd)]) (ha : w.heap[pa]? = some (.map #[] 0)) (hm : w.heap[pb]? = some (.map #[] 0)) (hc : w.heap[pc]? = some (.map #[] 0)) :
    Calls Tryz.prog 76 #[.pointer (some ⟨P, 0, none⟩)] w fun e w' => e = .returned (.agg #[.int .i64 0, .slice none 0 0]) ∧ Q w w' := by
  have C1 := Lib.hid (fun (x : World) (q : Q w x) => layV0 x P pa pb pc pd (hb.on q) ((q.block pb (lt_of_block hm)).trans hm))
  have C2 := Lib.hid (fun (x : World) (q : Q w x) => layU0 x P pa pb pc pd (hb.on q) ((q.block pc (lt_of_block hc)).trans hc))
  have C3 : Hid (∀ x : World, Calls Tryz.prog 128 #[.slice none 0 0, .func (.func 129) #[] #[]] x fun e w' => e = .returned (.tuple #[]) ∧ w' = x) := Lib.hid (fun x => AnyF.slices_SortFunc_none laysSB none 0 _ x)
  have HB := Lib.hid hb
  have HA := Lib.hid ha
  have q0 := (Q.refl w).alloc (.cells #[.int .i64 0, .slice none 0 0] 24)
  have n0 := Bx.new w 24 #[.int .i64 0, .slice none 0 0]
  clear hb ha hm hc
  go_enter Tryz.func76, Tryz.ntmps76
  go_wp2_with fail
  refine (C1.out _ q0).mono ?_
  rintro e w1 ⟨rfl, q1⟩
  have q2 := q0.trans q1
  go_wp2_with fail
  refine (C2.out _ q2).mono ?_
  rintro e w2 ⟨rfl, q3⟩
  have q4 := q2.trans q3
  have n2 := (n0.on q1).on q3
  have d0 := (HB.out.on q4).cell 0
  have d1 := (HB.out.on q4).cell 1
  simp only [List.getElem?_toArray, List.getElem?_cons_zero, List.getElem?_cons_succ] at d0 d1
  have hma := (q4.block pa (lt_of_block HA.out)).trans HA.out
  clear C1 C2 q0 q1 q2 q3 n0
  have q5 := q4.alloc (.cells #[.int .i64 0, .slice none 0 0] 24)
  have n5 := n2.alloc (.cells #[.int .i64 0, .slice none 0 0] 24)
  have b5 := Bx.new w2 24 #[.int .i64 0, .slice none 0 0]
  have hm5 := (((Q.refl w2).alloc (.cells #[.int .i64 0, .slice none 0 0] 24)).block pa (lt_of_block hma)).trans hma
  go_upto_region 4 with fail
  obtain ⟨pb2, hpb2⟩ : ∃ z, z = w2.heap.size := ⟨_, rfl⟩
  obtain ⟨y0, hy0⟩ : ∃ z, z = w2.alloc (.cells #[.int .i64 0, .slice none 0 0] 24) := ⟨_, rfl⟩
  rw [← hy0] at q5 n5 b5 hm5
  rw [← hpb2] at b5
  rw [← hy0, ← hpb2]
  have e1 : y0.cell? ⟨P, 1, none⟩ = some (.map (some pa)) := by
    have h := (HB.out.on q5).cell 1
    simpa using h
  have hwp : w.heap.size ≤ pb2 := by rw [hpb2]; exact q4.size
  have hlt2 := n2.lt
  rw [← hpb2] at hlt2
  clear hy0 hpb2 hma d0 d1 n2 q4
  have it0 : (y0.alloc (.mapIter (some pa) 0 #[] 0)).heap[y0.heap.size]? = some (.mapIter (some pa) 0 #[] 0) := heap_new _ _
  have m0 := (((Q.refl y0).alloc (.mapIter (some pa) 0 #[] 0)).block pa (lt_of_block hm5)).trans hm5
  have q6 := q5.alloc (.mapIter (some pa) 0 #[] 0)
  have n6 := n5.alloc (.mapIter (some pa) 0 #[] 0)
  have b6 := b5.alloc (.mapIter (some pa) 0 #[] 0)
  obtain ⟨pi, hpi⟩ : ∃ z, z = y0.heap.size := ⟨_, rfl⟩
  obtain ⟨y1, hy1⟩ : ∃ z, z = y0.alloc (.mapIter (some pa) 0 #[] 0) := ⟨_, rfl⟩
  rw [← hy1] at it0 m0 q6 n6 b6
  rw [← hpi] at it0
  have HIT := Lib.hid it0
  have HM0 := Lib.hid m0
  have HQ6 := Lib.hid q6
  have HN6 := Lib.hid n6
  have HB6 := Lib.hid b6
  clear it0 m0 q6 n6 b6 n5 b5 q5
  go_wp2_with (at_range; refine wpList_range_g Tryz.underlying133 _ rfl _ rfl _ _ _ rfl hm5 ?_)
  rw [← hy1, ← hpi]
  clear hy1 hpi hm5 e1
  (try simp only [Act.put, List.setIfInBounds_toArray, List.set_cons_zero, List.set_cons_succ])
  go_loopw [21] (fun _ wr => wr.heap[pi]? = some (.mapIter (some pa) 0 #[] 0) ∧ wr.heap[pa]? = some (.map #[] 0) ∧ Q w wr ∧ Bx wr w.heap.size 24 #[.int .i64 0, .slice none 0 0] ∧ Bx wr pb2 24 #[.int .i64 0, .slice none 0 0]) (fun _ _ => 0)
  case atStart => exact ⟨HIT.out, HM0.out, HQ6.out, HN6.out, HB6.out⟩
  case round =>
    obtain ⟨hit, hmr, q, bn, bb⟩ := hrel
    clear HIT HM0 HQ6 HN6 HB6
    have u0 := bb.cell 0
    have u1 := bb.cell 1
    have z0 := bn.cell 0
    have z1 := bn.cell 1
    have f0 := bn.frozen 0
    have f1 := bn.frozen 1
    simp only [List.getElem?_toArray, List.getElem?_cons_zero, List.getElem?_cons_succ] at u0 u1 z0 z1
    go_wp2_with (first
      | (at_next; refine wpList_next_w _ rfl _ rfl _ _ _ _ _ _ _ rfl hit hmr (by simp) (Nat.le_refl _) (fun _ => ?_) (fun e he => (left0_no he).elim))
      | (go_at_call 128; refine (C3.out _).mono ?_; rintro e w9 ⟨rfl, rfl⟩))
    have bs := (bn.set 0 (.int .i64 0)).set 1 (.slice none 0 0)
    have k0 := bs.cell 0
    have k1 := bs.cell 1
    (try simp only [Exit.inBlock, Exit.then])
    refine bodyPost_ret (v := .agg #[.int .i64 0, .slice none 0 0]) ?_ rfl ⟨rfl, Q.set (Q.set q (Nat.le_refl _) _) (Nat.le_refl _) _⟩
    simp at k0 k1
    simp [results, Tryz.results76, go_sem, k0, k1]
end Go.Proofs.YtbilnomafloopaaGreat

namespace Go.Proofs.YtbilnomafloopaaGreat
set_option maxRecDepth 100000
open Go.ChangeShapes Go.WideShapes Go.ChangeAt Go.RowKit
set_option linter.unusedVariables false
set_option linter.unusedSimpArgs false
theorem draft_new (w : World) : Bx ((((((w.alloc (.cells #[.int .i64 0, .slice none 0 0] 24)).alloc (.map #[] 0)).alloc (.map #[] 0)).alloc (.map #[] 0)).alloc (.map #[] 0)).alloc (.cells #[.int .i64 0, .map (some (w.heap.size + 1)), .map (some (w.heap.size + 1 + 1)), .map (some (w.heap.size + 1 + 1 + 1)), .map (some (w.heap.size + 1 + 1 + 1 + 1))] 138)) (w.heap.size + 1 + 1 + 1 + 1 + 1) 138 #[.int .i64 0, .map (some (w.heap.size + 1)), .map (some (w.heap.size + 1 + 1)), .map (some (w.heap.size + 1 + 1 + 1)), .map (some (w.heap.size + 1 + 1 + 1 + 1))] ∧ ((((((w.alloc (.cells #[.int .i64 0, .slice none 0 0] 24)).alloc (.map #[] 0)).alloc (.map #[] 0)).alloc (.map #[] 0)).alloc (.map #[] 0)).alloc (.cells #[.int .i64 0, .map (some (w.heap.size + 1)), .map (some (w.heap.size + 1 + 1)), .map (some (w.heap.size + 1 + 1 + 1)), .map (some (w.heap.size + 1 + 1 + 1 + 1))] 138)).heap[w.heap.size + 1]? = some (.map #[] 0) ∧ ((((((w.alloc (.cells #[.int .i64 0, .slice none 0 0] 24)).alloc (.map #[] 0)).alloc (.map #[] 0)).alloc (.map #[] 0)).alloc (.map #[] 0)).alloc (.cells #[.int .i64 0, .map (some (w.heap.size + 1)), .map (some (w.heap.size + 1 + 1)), .map (some (w.heap.size + 1 + 1 + 1)), .map (some (w.heap.size + 1 + 1 + 1 + 1))] 138)).heap[w.heap.size + 1 + 1]? = some (.map #[] 0) ∧ ((((((w.alloc (.cells #[.int .i64 0, .slice none 0 0] 24)).alloc (.map #[] 0)).alloc (.map #[] 0)).alloc (.map #[] 0)).alloc (.map #[] 0)).alloc (.cells #[.int .i64 0, .map (some (w.heap.size + 1)), .map (some (w.heap.size + 1 + 1)), .map (some (w.heap.size + 1 + 1 + 1)), .map (some (w.heap.size + 1 + 1 + 1 + 1))] 138)).heap[w.heap.size + 1 + 1 + 1]? = some (.map #[] 0) ∧
    Bx ((((((w.alloc (.cells #[.int .i64 0, .slice none 0 0] 24)).alloc (.map #[] 0)).alloc (.map #[] 0)).alloc (.map #[] 0)).alloc (.map #[] 0)).alloc (.cells #[.int .i64 0, .map (some (w.heap.size + 1)), .map (some (w.heap.size + 1 + 1)), .map (some (w.heap.size + 1 + 1 + 1)), .map (some (w.heap.size + 1 + 1 + 1 + 1))] 138)) w.heap.size 24 #[.int .i64 0, .slice none 0 0] ∧ Q w ((((((w.alloc (.cells #[.int .i64 0, .slice none 0 0] 24)).alloc (.map #[] 0)).alloc (.map #[] 0)).alloc (.map #[] 0)).alloc (.map #[] 0)).alloc (.cells #[.int .i64 0, .map (some (w.heap.size + 1)), .map (some (w.heap.size + 1 + 1)), .map (some (w.heap.size + 1 + 1 + 1)), .map (some (w.heap.size + 1 + 1 + 1 + 1))] 138)) := by
  have a1 := heap_new (w.alloc (.cells #[.int .i64 0, .slice none 0 0] 24)) (.map #[] 0)
  have a2 := heap_new ((w.alloc (.cells #[.int .i64 0, .slice none 0 0] 24)).alloc (.map #[] 0)) (.map #[] 0)
  have a3 := heap_new (((w.alloc (.cells #[.int .i64 0, .slice none 0 0] 24)).alloc (.map #[] 0)).alloc (.map #[] 0)) (.map #[] 0)
  have a5 := Bx.new (((((w.alloc (.cells #[.int .i64 0, .slice none 0 0] 24)).alloc (.map #[] 0)).alloc (.map #[] 0)).alloc (.map #[] 0)).alloc (.map #[] 0)) 138 #[.int .i64 0, .map (some (w.heap.size + 1)), .map (some (w.heap.size + 1 + 1)), .map (some (w.heap.size + 1 + 1 + 1)), .map (some (w.heap.size + 1 + 1 + 1 + 1))]
  simp only [World.size_alloc] at a1 a2 a3 a5
  have b := Bx.new w 24 #[.int .i64 0, .slice none 0 0]
  refine ⟨a5, ?_, ?_, ?_, ((((b.alloc _).alloc _).alloc _).alloc _).alloc _, ((((((Q.refl w).alloc _).alloc _).alloc _).alloc _).alloc _).alloc _⟩
  · exact (Below.block ((((Q.refl _).alloc _).alloc _).alloc _ |>.alloc _) _ (by simp)).trans a1
  · exact (Below.block (((Q.refl _).alloc _).alloc _ |>.alloc _) _ (by simp)).trans a2
  · exact (Below.block ((Q.refl _).alloc _ |>.alloc _) _ (by simp)).trans a3
set_option maxHeartbeats 4000000 in
theorem drafted0_any (l : List Itm) (v : Value) (w : World) (hl : l.length ≤ 10) (hx : ∀ x ∈ l, x = itT) (ht : Itms w w.heap.size v l) :
    Calls Tryz.prog 36 #[v] w fun e w' => e = .returned (.agg #[.int .i64 0, .slice none 0 0]) ∧ Q w w' := by
  obtain ⟨A, c, rfl, -, -, -, hcells⟩ := ht
  have HC := Lib.hid hcells
  have HX := Lib.hid hx
  have HT := Lib.hid take0_any
  have hd := Lib.hid depot0_any
  obtain ⟨h0, h1, h2, h3, h4, q0⟩ := draft_new w
  clear hcells hx
  have hmm := @run_makeMap Tryz.prog
  obtain ⟨P, hP⟩ : ∃ z, z = w.heap.size + 1 + 1 + 1 + 1 + 1 := ⟨_, rfl⟩
  obtain ⟨pa, hpa⟩ : ∃ z, z = w.heap.size + 1 := ⟨_, rfl⟩
  obtain ⟨pb, hpb⟩ : ∃ z, z = w.heap.size + 1 + 1 := ⟨_, rfl⟩
  obtain ⟨pc, hpc⟩ : ∃ z, z = w.heap.size + 1 + 1 + 1 := ⟨_, rfl⟩
  obtain ⟨pd, hpd⟩ : ∃ z, z = w.heap.size + 1 + 1 + 1 + 1 := ⟨_, rfl⟩
  obtain ⟨W0, hW0⟩ : ∃ z, z = ((((((w.alloc (.cells #[.int .i64 0, .slice none 0 0] 24)).alloc (.map #[] 0)).alloc (.map #[] 0)).alloc (.map #[] 0)).alloc (.map #[] 0)).alloc (.cells #[.int .i64 0, .map (some (w.heap.size + 1)), .map (some (w.heap.size + 1 + 1)), .map (some (w.heap.size + 1 + 1 + 1)), .map (some (w.heap.size + 1 + 1 + 1 + 1))] 138)) := ⟨_, rfl⟩
  rw [← hW0] at h0 h1 h2 h3 h4 q0
  rw [← hP, ← hpd, ← hpc, ← hpb, ← hpa] at h0
  rw [← hpa] at h1
  rw [← hpb] at h2
  rw [← hpc] at h3
  have hPw : w.heap.size ≤ P := by omega
  have hPn : w.heap.size ≠ P ∧ pa ≠ P ∧ pb ≠ P ∧ pc ≠ P := by omega
  have G0 := Lib.hid h0
  have G1 := Lib.hid h1
  have G2 := Lib.hid h2
  have G3 := Lib.hid h3
  have G4 := Lib.hid h4
  have GQ := Lib.hid q0
  clear h0 h1 h2 h3 h4 q0
  go_enter Tryz.func36, Tryz.ntmps36
  go_wp2_with fail
  rw [← hW0, ← hP, ← hpd, ← hpc, ← hpb, ← hpa]
  clear hW0 hP hpa hpb hpc hpd hmm
  go_loopw [13] (fun I wr => ∃ i : Nat, i ≤ l.length ∧ I = .int .i64 i ∧ Bx wr P 138 #[.int .i64 0, .map (some pa), .map (some pb), .map (some pc), .map (some pd)] ∧ wr.heap[pa]? = some (.map #[] 0) ∧ wr.heap[pb]? = some (.map #[] 0) ∧ wr.heap[pc]? = some (.map #[] 0) ∧ Bx wr w.heap.size 24 #[.int .i64 0, .slice none 0 0] ∧ Q w wr) (fun I _ => l.length - (intOf I).toNat)
  case atStart => exact ⟨0, Nat.zero_le _, rfl, G0.out, G1.out, G2.out, G3.out, G4.out, GQ.out⟩
  case round =>
    obtain ⟨i, hil, rfl, h0, h1, h2, h3, h4, q⟩ := hrel
    clear G0 G1 G2 G3 G4 GQ
    by_cases hlt : i < l.length
    · obtain ⟨a, hAa, ha, hat⟩ := HC.out i hlt
      subst hAa
      rw [HX.out _ (List.getElem_mem hlt)] at hat
      obtain ⟨c0, c1⟩ := hat.keep (by rw [add_block]; exact ha) fun p hp => q.cell hp
      have hilt : (i : Int) < (l.length : Int) := by omega
      have q1 := (Q.refl wr).alloc (.cells #[.string ⟨#[116]⟩, .string valT] 68)
      have C := Lib.hid (HT.out _ P pa pb pc pd (h0.on q1))
      have k1 := (q1.block pa (lt_of_block h1)).trans h1
      have k2 := (q1.block pb (lt_of_block h2)).trans h2
      have k3 := (q1.block pc (lt_of_block h3)).trans h3
      have k4 := h4.on q1
      have q2 := q.trans q1
      have e0 : wr.cell? (a.add (i * 2)) = some (.string ⟨#[116]⟩) := c0
      have e1 : wr.cell? ⟨(a.add (i * 2)).block, (a.add (i * 2)).off + 1, none⟩ = some (.string valT) := c1
      clear h0 h1 h2 h3 h4 q q1 c0 c1 hat
      go_wp2_with fail
      refine (C.out).mono ?_
      rintro e w1 ⟨rfl, b1, g1⟩
      go_wp2_with fail
      go_roundw
      case rel => exact ⟨i + 1, by omega, by go_num, b1, (g1.block pa (lt_of_block k1) (by simp; omega)).trans k1, (g1.block pb (lt_of_block k2) (by simp; omega)).trans k2, (g1.block pc (lt_of_block k3) (by simp; omega)).trans k3, g1.bx k4 hPn.1, g1.q q2 hPw⟩
      case measure => simp [intOf]; omega
    · have h5 : ¬ (i : Int) < (l.length : Int) := by omega
      have C := Lib.hid (hd.out wr P pa pb pc pd h0 h1 h2 h3)
      clear h0 h1 h2 h3
      go_wp2_with fail
      refine (C.out).mono ?_
      rintro e w1 ⟨rfl, q1⟩
      have bn := h4.on q1
      have f0 := bn.frozen 0
      have f1 := bn.frozen 1
      have z0 := bn.cell 0
      have z1 := bn.cell 1
      simp only [List.getElem?_toArray, List.getElem?_cons_zero, List.getElem?_cons_succ] at z0 z1
      go_wp2_with fail
      have bs := (bn.set 0 (.int .i64 0)).set 1 (.slice none 0 0)
      have k0 := bs.cell 0
      have k1 := bs.cell 1
      (try simp only [Exit.inBlock, Exit.then])
      refine bodyPost_ret (v := .agg #[.int .i64 0, .slice none 0 0]) ?_ rfl ⟨rfl, Q.set (Q.set (q.trans q1) (Nat.le_refl _) _) (Nat.le_refl _) _⟩
      simp at k0 k1
      simp [results, Tryz.results36, go_sem, k0, k1]
theorem txts_one (w : World) (s : ByteArray) : Txts (w.alloc (.cells #[.string s] 9)) (w.alloc (.cells #[.string s] 9)).heap.size (.slice (some ⟨w.heap.size, 0, none⟩) 1 1) [s] := by
  refine ⟨some ⟨w.heap.size, 0, none⟩, 1, rfl, fun k hk => ⟨⟨w.heap.size, 0, none⟩, rfl, by simp, ?_⟩⟩
  have : k = 0 := by simpa using hk
  subst this
  simp [Addr.add]
theorem own_one (w : World) (base : Nat) (x : Itm) (hb : base ≤ w.heap.size) : OwnI base (w.alloc (.cells (icl x).toArray 68)) (.slice (some ⟨w.heap.size, 0, none⟩) 1 1) [x] := by
  refine ⟨by simp [icl], .inr ⟨w.heap.size, 1, (icl x).toArray, rfl, hb, heap_new _ _, Nat.le_refl _, by unfold maxLen; omega, by simp [icl], by simp [icl]⟩⟩
set_option maxHeartbeats 4000000 in
theorem of0_any (w : World) : Calls Tryz.prog 12 #[.agg #[.int .i64 0, .slice none 0 0]] w fun e w' => ∃ v', e = .returned (.tuple #[v', .int .i64 0]) ∧ OwnI w.heap.size w' v' [itT] ∧ Q w w' := by
  have C1 := Lib.hid check0_any
  have C2 := Lib.hid (fun x => num_any 0 x (by omega))
  have C3 := Lib.hid (fun x v h => laid_any ⟨#[116]⟩ [mk (oct 0 8)] v x (by kernel_rfl) (fun s hs => by rw [List.mem_singleton] at hs; rw [hs]; have := oct_size; omega) (by simp) h)
  have C4 := Lib.hid (fun x v h => sortItems_any [itT] v w.heap.size x h (by simp))
  have n0 := Bx.new w 24 #[.int .i64 0, .slice none 0 0]
  have q0 := (Q.refl w).alloc (.cells #[.int .i64 0, .slice none 0 0] 24)
  have HI : Hid (itT = ⟨⟨#[116]⟩, mk (lst [mk (oct 0 8)])⟩) := Lib.hid rfl
  rw [itm] at C3
  simp only at C3
  obtain ⟨V, hV⟩ : ∃ V, V = mk (lst [mk (oct 0 8)]) := ⟨_, rfl⟩
  rw [← hV] at C3 HI
  obtain ⟨N, hN⟩ : ∃ N, N = mk (oct 0 8) := ⟨_, rfl⟩
  rw [← hN] at C2 C3
  clear hV hN
  go_enter Tryz.func12, Tryz.ntmps12
  go_wp2_with fail
  refine (C1.out _).mono ?_
  rintro e w1 ⟨rfl, q1⟩
  have n1 := n0.on q1
  have c0 := n1.cell 0
  simp only [List.getElem?_toArray, List.getElem?_cons_zero, List.getElem?_cons_succ] at c0
  have q2 := q0.trans q1
  clear C1 n0 q0 q1
  go_wp2_with fail
  refine (C2.out _).mono ?_
  rintro e w2 ⟨rfl, q3⟩
  have q4 := q2.trans q3
  have n2 := n1.on q3
  have tx := txts_one w2 N
  have q5 := q4.alloc (.cells #[.string N] 9)
  have n3 := n2.alloc (.cells #[.string N] 9)
  clear C2 q2 q3 n1 c0 q4 n2
  go_wp2_with fail
  refine (C3.out _ _ tx).mono ?_
  rintro e w3 ⟨rfl, q6⟩
  have q7 := q5.trans q6
  have n4 := n3.on q6
  have ow0 := own_one w3 w.heap.size itT q7.size
  rw [HI.out] at ow0
  have ow : OwnI w.heap.size (w3.alloc (.cells #[.string ⟨#[116]⟩, .string V] 68)) (.slice (some ⟨w3.heap.size, 0, none⟩) 1 1) [⟨⟨#[116]⟩, V⟩] := ow0
  rw [← HI.out] at ow
  have q8 := q7.alloc (.cells #[.string ⟨#[116]⟩, .string V] 68)
  have n5 := n4.alloc (.cells #[.string ⟨#[116]⟩, .string V] 68)
  have c0 := n5.cell 0
  have c1 := n5.cell 1
  simp only [List.getElem?_toArray, List.getElem?_cons_zero, List.getElem?_cons_succ] at c0 c1
  obtain ⟨g, hg⟩ : ∃ z, z = w3.heap.size := ⟨_, rfl⟩
  obtain ⟨y1, hy1⟩ : ∃ z, z = w3.alloc (.cells #[.string ⟨#[116]⟩, .string V] 68) := ⟨_, rfl⟩
  rw [← hy1] at ow q8 c0 c1
  rw [← hg] at ow
  clear C3 tx q5 q6 n3 n4 q7 ow0 n5
  go_upto_region 4 with fail
  rw [← hy1, ← hg]
  clear hy1 hg
  have HO := Lib.hid ow
  have HQ := Lib.hid q8
  clear ow q8
  go_wp2_with fail
  go_loopw [4, 20] (fun O I wr => O = .slice (some ⟨g, 0, none⟩) 1 1 ∧ I = .int .i64 0 ∧ OwnI w.heap.size wr (.slice (some ⟨g, 0, none⟩) 1 1) [itT] ∧ Q w wr) (fun _ _ _ => 0)
  case atStart => exact ⟨rfl, rfl, HO.out, HQ.out⟩
  case round =>
    obtain ⟨rfl, rfl, ow, q⟩ := hrel
    clear c0 c1 HO HQ
    have C := Lib.hid (C4.out _ _ ow)
    go_wp2_with fail
    refine (C.out).mono ?_
    rintro e w9 ⟨rfl, L', hp, -, o9, g9⟩
    have hL : L' = [itT] := List.perm_singleton.1 hp
    subst hL
    go_wp2_with fail
    go_ret2
    exact ⟨_, rfl, o9, Below.grown q g9 q.size (fun k hk => by have := (World.ownsRow.lt ow k hk).1; omega)⟩
def bE (b : Bool) : Int := if b = true then 0 else 2
set_option maxHeartbeats 4000000 in
theorem build0_any (l : List Itm) (v : Value) (w : World) (b : Bool) (hb : b = decide ([itT] = l)) (hl : l.length ≤ 10) (hx : ∀ x ∈ l, x = itT) (ht : Itms w w.heap.size v l) :
    Calls Tryz.prog 15 #[v] w fun e w' => e = .returned (.tuple #[.agg #[.int .i64 0, .slice none 0 0], .int .i64 (bE b)]) ∧ Q w w' := by
  have C1 := Lib.hid (fun (x : World) (q : Q w x) => drafted0_any l v x hl hx (ht.on q))
  have C2 := Lib.hid of0_any
  have C3 := Lib.hid (fun (x : World) (q : Q w x) (u : Value) (h : Itms x x.heap.size u [itT]) => ieq_any [itT] l u v x (by simp) (by omega) h (ht.on q))
  rw [← hb] at C3
  have n0 := Bx.new w 24 #[.int .i64 0, .slice none 0 0]
  have q0 := (Q.refl w).alloc (.cells #[.int .i64 0, .slice none 0 0] 24)
  clear ht hx hb
  go_enter Tryz.func15, Tryz.ntmps15
  go_wp2_with fail
  refine (C1.out _ q0).mono ?_
  rintro e w1 ⟨rfl, q1⟩
  have hlt := (n0.on q1).lt
  have n1 := (n0.on q1).alloc (.cells #[.int .i64 0, .slice none 0 0] 24)
  have m1 := Bx.new w1 24 #[.int .i64 0, .slice none 0 0]
  have q2 := (q0.trans q1).alloc (.cells #[.int .i64 0, .slice none 0 0] 24)
  clear C1 n0 q0 q1
  go_wp2_with fail
  refine (C2.out _).mono ?_
  rintro e w2 ⟨u, rfl, o2, q3⟩
  have n2 := n1.on q3
  have m2 := m1.on q3
  have q4 := q2.trans q3
  have rd := OwnI.read o2 (fun x hx => by rw [List.mem_singleton] at hx; rw [hx]; exact itT_ok)
  clear C2 n1 m1 q2 q3 o2
  go_upto_region 3 with fail
  have C := Lib.hid (C3.out _ q4 _ rd)
  obtain ⟨pw, hpw⟩ : ∃ z, z = w1.heap.size := ⟨_, rfl⟩
  rw [← hpw] at m2 hlt
  rw [← hpw]
  clear hpw
  cases b with
  | true =>
    clear C3 rd
    go_wp2_with fail
    refine (C.out).mono ?_
    rintro e w5 ⟨rfl, d5⟩
    have q5 := q4.trans d5.q
    have bn := n2.on d5.q
    have bm := m2.on d5.q
    have f0 := bn.frozen 0
    have f1 := bn.frozen 1
    have z0 := bn.cell 0
    have z1 := bn.cell 1
    have u0 := bm.cell 0
    have u1 := bm.cell 1
    simp only [List.getElem?_toArray, List.getElem?_cons_zero, List.getElem?_cons_succ] at z0 z1 u0 u1
    go_wp2_with fail
    have bs := (bn.set 0 (.int .i64 0)).set 1 (.slice none 0 0)
    have k0 := bs.cell 0
    have k1 := bs.cell 1
    simp at k0 k1
    (try simp only [Exit.inBlock, Exit.then])
    refine bodyPost_ret (v := .tuple #[.agg #[.int .i64 0, .slice none 0 0], .int .i64 0]) ?_ rfl ⟨rfl, Q.set (Q.set q5 (Nat.le_refl _) _) (Nat.le_refl _) _⟩
    simp [results, Tryz.results15, go_sem, k0, k1]
  | false =>
    clear C3 rd
    go_wp2_with fail
    refine (C.out).mono ?_
    rintro e w5 ⟨rfl, d5⟩
    have q5 := q4.trans d5.q
    have bn := n2.on d5.q
    have bm := m2.on d5.q
    have f0 := bn.frozen 0
    have f1 := bn.frozen 1
    have z0 := bn.cell 0
    have z1 := bn.cell 1
    have u0 := bm.cell 0
    have u1 := bm.cell 1
    simp only [List.getElem?_toArray, List.getElem?_cons_zero, List.getElem?_cons_succ] at z0 z1 u0 u1
    go_wp2_with fail
    have bs := (bn.set 0 (.int .i64 0)).set 1 (.slice none 0 0)
    have k0 := bs.cell 0
    have k1 := bs.cell 1
    simp at k0 k1
    (try simp only [Exit.inBlock, Exit.then])
    refine bodyPost_ret (v := .tuple #[.agg #[.int .i64 0, .slice none 0 0], .int .i64 2]) ?_ rfl ⟨rfl, Q.set (Q.set q5 (Nat.le_refl _) _) (Nat.le_refl _) _⟩
    simp [results, Tryz.results15, go_sem, k0, k1]
end Go.Proofs.YtbilnomafloopaaGreat

