/-
  Contracts of the program's TakeList (and its closure) and Whole.
-/
import Derived.Test.YtbilnomafloopaaGreatCut
import Derived.Test.YtbilnomafloopaaGreatLay
namespace Go.Proofs.YtbilnomafloopaaGreat
set_option maxRecDepth 100000
open Go.ChangeShapes Go.WideShapes Go.ChangeAt Go.RowKit
set_option linter.unusedVariables false

theorem info_str : (Tryz.prog.info? 9).map (fun i => (i.zero, i.size, i.bytes)) = some (some (.string ⟨#[]⟩), 1, 16) := by kernel_rfl

/-- What a round of the closure finds: the rest in one block, the list in another one. -/
def Inv (B g1 g2 : Nat) (w : World) (l : List ByteArray) (r : ByteArray) : Prop :=
  ∃ v, w.heap[g1]? = some (.cells #[.string r] 9 (0, 0)) ∧ w.heap[g2]? = some (.cells #[v] 85 (0, 0)) ∧ w.ownsRow (g2 + 1) 9 1 v l.length (l.map Value.string) ∧ B ≤ g1 ∧ g1 < g2
theorem Inv.on {B g1 g2 : Nat} {w w' : World} {l : List ByteArray} {r : ByteArray} (h : Inv B g1 g2 w l r) (q : Q w w') : Inv B g1 g2 w' l r := by
  obtain ⟨v, h1, h2, h3, h4, h5⟩ := h
  have l2 := lt_of_block h2
  refine ⟨v, (q.block g1 (by omega)).trans h1, (q.block g2 l2).trans h2, ?_, h4, h5⟩
  rcases h3.2 with ⟨rfl, h0⟩ | ⟨g, cap, cur, rfl, hb, hg, h6⟩
  · exact ⟨h3.1, .inl ⟨rfl, h0⟩⟩
  · exact ⟨h3.1, .inr ⟨g, cap, cur, rfl, hb, (q.block g (lt_of_block hg)).trans hg, h6⟩⟩

theorem own_form {w : World} {base : Nat} {e : TypeId} {v : Value} {n : Nat} {xs : List Value} (h : w.ownsRow base e 1 v (n + 1) xs) : ∃ g cap, v = .slice (some ⟨g, 0, none⟩) (n + 1) cap := by
  rcases h.2 with ⟨-, h0⟩ | ⟨g, cap, cur, rfl, -⟩
  · omega
  · exact ⟨g, cap, rfl⟩
theorem inv_step {B g1 g2 : Nat} {w1 w2 : World} {l : List ByteArray} {x b : ByteArray} {v v1 : Value} {o : Obj} {r : ByteArray}
    (h1 : w1.heap[g1]? = some (.cells #[.string r] 9 (0, 0))) (h2 : w1.heap[g2]? = some (.cells #[v] 85 (0, 0))) (h3 : w1.ownsRow (g2 + 1) 9 1 v l.length (l.map Value.string)) (h4 : B ≤ g1) (h5 : g1 < g2)
    (ho : w2.ownsRow (g2 + 1) 9 1 v1 (l.length + 1) (l.map Value.string ++ [Value.string x])) (hg : (w1.alloc o).grownBy w2 v.ownBlock) :
    (w2.heap[g1]? = some (.cells #[.string r] 9 (0, 0)) ∧ w2.heap[g2]? = some (.cells #[v] 85 (0, 0))) ∧
    Inv B g1 g2 ((w2.setCell ⟨g2, 0, none⟩ v1).setCell ⟨g1, 0, none⟩ (.string b)) (l ++ [x]) b ∧ Below B w1 ((w2.setCell ⟨g2, 0, none⟩ v1).setCell ⟨g1, 0, none⟩ (.string b)) := by
  have l1 := lt_of_block h1
  have l2 := lt_of_block h2
  have hrow : ∀ k, v.ownBlock = some k → g2 + 1 ≤ k := fun k hk => (World.ownsRow.lt h3 k hk).1
  have k1 : w2.heap[g1]? = some (.cells #[.string r] 9 (0, 0)) := (hg.block g1 (by simp; omega) (fun e => by have := hrow g1 e.symm; omega)).trans ((Below.heap_alloc w1 o g1 l1).trans h1)
  have k2 : w2.heap[g2]? = some (.cells #[v] 85 (0, 0)) := (hg.block g2 (by simp; omega) (fun e => by have := hrow g2 e.symm; omega)).trans ((Below.heap_alloc w1 o g2 l2).trans h2)
  refine ⟨⟨k1, k2⟩, ⟨v1, ?_, ?_, ?_, h4, h5⟩, ?_⟩
  · exact one_setCell ((Below.heap_setCell w2 ⟨g2, 0, none⟩ v1 g1 (by simp; omega)).trans k1)
  · exact (Below.heap_setCell _ ⟨g1, 0, none⟩ _ g2 (by simp; omega)).trans (one_setCell k2)
  · rw [List.length_append, List.length_singleton, List.map_append, List.map_singleton]
    exact ownsRow_setCell_below (ownsRow_setCell_below ho (by simp) v1) (by simp; omega) _
  · have b0 : Below B w1 w2 := ((Below.refl B w1).alloc (by omega) o).grown hg (by simp; omega) (fun k hk => by have := hrow k hk; omega)
    exact (b0.setCell (p := ⟨g2, 0, none⟩) (by simp; omega) v1).setCell (p := ⟨g1, 0, none⟩) (by simpa using h4) _

set_option maxHeartbeats 1000000 in
theorem next_bad (B g1 g2 : Nat) (l : List ByteArray) (r : ByteArray) (w : World) (hr : r.size ≤ 1000000000) (hi : Inv B g1 g2 w l r) {x b : ByteArray} {f : Nat} (h : tt r = (x, b, f)) (hf : 0 < f) :
    Calls Tryz.prog 199 #[.pointer (some ⟨g1, 0, none⟩), .pointer (some ⟨g2, 0, none⟩)] w fun e w' => e = .returned (.int .i64 f) ∧ Q w w' := by
  have HT := Lib.hid h
  clear h
  obtain ⟨v, h1, h2, h3, h4, h5⟩ := hi
  have c1 := cell_of_one h1
  have H1 := Lib.hid h1; have H2 := Lib.hid h2
  clear h1 h2
  have hf' : ¬ f = 0 := by omega
  go_enter Tryz.func199, Tryz.ntmps199
  go_wp2_with fail
  refine (takeText_any r w hr HT.out).mono ?_
  rintro e w1 ⟨rfl, q⟩
  go_wp2
  go_ret
  exact ⟨rfl, q⟩

set_option maxHeartbeats 1000000 in
theorem next_good (B g1 g2 : Nat) (l : List ByteArray) (r : ByteArray) (w : World) (hr : r.size ≤ 1000000000) (hl : l.length ≤ 1000000) (hi : Inv B g1 g2 w l r) {x b : ByteArray} (h : tt r = (x, b, 0)) :
    Calls Tryz.prog 199 #[.pointer (some ⟨g1, 0, none⟩), .pointer (some ⟨g2, 0, none⟩)] w fun e w' => e = .returned (.int .i64 0) ∧ Inv B g1 g2 w' (l ++ [x]) b ∧ Below B w w' := by
  obtain ⟨i0, hi0, hz0, hz1, hz2⟩ := info_parts info_str
  have HT := Lib.hid h
  clear h
  have HI := Lib.hid hi
  have c1 : w.cell? ⟨g1, 0, none⟩ = some (.string r) := by obtain ⟨v, h1, h2, h3, h4, h5⟩ := hi; exact cell_of_one h1
  have hB : B ≤ w.heap.size := by obtain ⟨v, h1, h2, h3, h4, h5⟩ := hi; have := lt_of_block h1; omega
  clear hi
  go_enter Tryz.func199, Tryz.ntmps199
  go_wp2_with fail
  refine (takeText_any r w hr HT.out).mono ?_
  rintro e w1 ⟨rfl, q⟩
  obtain ⟨v, h1, h2, h3, h4, h5⟩ := HI.out.on q
  have c2 := cell_of_one h2
  have l2 := lt_of_block h2
  have H1 := Lib.hid h1; have H2 := Lib.hid h2
  clear h1 h2 c1
  go_wp2_with (first | (at_builtin; refine wpList_append_own _ rfl _ _ 85 rfl (g2 + 1) 9 i0 (.string ⟨#[]⟩) 1 16 Tryz.underlying85 hi0 hz0 hz1 hz2 rfl (by decide) v l.length (l.map Value.string) rfl (World.ownsRow.alloc h3 _) ⟨w1.heap.size, 0, none⟩ 1 1 [.string x] rfl rfl (cell_one _ _ _) (by intro u hu; simp at hu; subst hu; rfl) (by unfold maxLen; omega) (by omega) (by simp; omega) ?_; intro v1 w2 ho hg _; obtain ⟨gg, cap, rfl⟩ := own_form ho; have R := inv_step (b := b) H1.out H2.out h3 h4 h5 ho hg; have RR := Lib.hid R.2; have d1 := cell_of_one R.1.2; have d2 := free_of_one R.1.2; have d3 := cell_of_one ((Below.heap_setCell w2 ⟨g2, 0, none⟩ (.slice (some ⟨gg, 0, none⟩) (l.length + 1) cap) g1 (by simp; omega)).trans R.1.1); have d4 := free_of_one ((Below.heap_setCell w2 ⟨g2, 0, none⟩ (.slice (some ⟨gg, 0, none⟩) (l.length + 1) cap) g1 (by simp; omega)).trans R.1.1); clear R ho hg))
  go_ret
  exact ⟨rfl, RR.out.1, (Below.mono q hB).trans RR.out.2⟩

/-- What is taken as so many texts, one behind the other. -/
def tl : Nat → ByteArray → List ByteArray × ByteArray × Nat
  | 0, s => ([], s, 0)
  | k + 1, s => if (tt s).2.2 = 0 then (if (tl k (tt s).2.1).2.2 = 0 then ((tt s).1 :: (tl k (tt s).2.1).1, (tl k (tt s).2.1).2.1, 0) else ([], ⟨#[]⟩, (tl k (tt s).2.1).2.2)) else ([], ⟨#[]⟩, (tt s).2.2)
/-- What is told, if some texts are there already. -/
def ahead (g : List ByteArray) (r : List ByteArray × ByteArray × Nat) : List ByteArray × ByteArray × Nat := if r.2.2 = 0 then (g ++ r.1, r.2.1, 0) else ([], ⟨#[]⟩, r.2.2)
theorem ahead_nil (k : Nat) (s : ByteArray) : ahead [] (tl k s) = tl k s := by
  unfold ahead
  split
  · rename_i h; rw [List.nil_append, ← h]
  · rename_i h
    cases k with
    | zero => exact absurd rfl h
    | succ k =>
      unfold tl at h ⊢
      split
      · rename_i a
        rw [if_pos a] at h
        split
        · rename_i b; rw [if_pos b] at h; exact absurd rfl h
        · rfl
      · rfl
theorem ahead_step {g : List ByteArray} {k : Nat} {s x b : ByteArray} (h : tt s = (x, b, 0)) : ahead g (tl (k + 1) s) = ahead (g ++ [x]) (tl k b) := by
  unfold ahead
  rw [tl, h]
  simp only [if_true]
  by_cases q : (tl k b).2.2 = 0
  · simp [q]
  · simp [q]
theorem ahead_bad {g : List ByteArray} {k : Nat} {s x b : ByteArray} {f : Nat} (h : tt s = (x, b, f)) (hf : ¬ f = 0) : ahead g (tl (k + 1) s) = ([], ⟨#[]⟩, f) := by
  unfold ahead
  rw [tl, h]
  simp [hf]
theorem no_size : (⟨#[]⟩ : ByteArray).size = 0 := rfl
theorem tt_size (s : ByteArray) : (tt s).2.1.size ≤ s.size := by
  unfold tt
  split
  · exact Nat.zero_le _
  · split
    · exact Nat.zero_le _
    · split
      · exact Nat.zero_le _
      · rw [size_cut _ (Nat.le_refl _)]; omega

/-- What is taken as a list: it, what is behind, and the error's number. -/
def tls (s : ByteArray) : List ByteArray × ByteArray × Nat := if (tc s).2.2 = 0 then tl (tc s).1 (tc s).2.1 else ([], ⟨#[]⟩, (tc s).2.2)
/-- What TakeList leaves: the list as a slice, and the rest. -/
def TookP (w : World) (r : List ByteArray × ByteArray × Nat) (e : Ending) (w' : World) : Prop :=
  ∃ A n c, e = .returned (.tuple #[.slice A n c, .string r.2.1, .int .i64 (r.2.2 : Nat)]) ∧ Txts w' w'.heap.size (.slice A n c) r.1 ∧ Q w w'

theorem tc_size (s : ByteArray) : (tc s).2.1.size ≤ s.size ∧ (tc s).1 ≤ 4000 := by
  unfold tc
  split
  · exact ⟨Nat.zero_le _, by simp⟩
  · split
    · exact ⟨Nat.zero_le _, by simp⟩
    · rw [size_cut _ (Nat.le_refl _)]; exact ⟨by omega, by simp; omega⟩
theorem own_slice {w : World} {base : Nat} {e : TypeId} {v : Value} {n : Nat} {xs : List Value} (h : w.ownsRow base e 1 v n xs) : ∃ A m c, v = .slice A m c := by
  rcases h.2 with ⟨rfl, h0⟩ | ⟨g, cap, cur, rfl, -⟩
  · exact ⟨_, _, _, rfl⟩
  · exact ⟨_, _, _, rfl⟩
theorem inv_start (w w1 : World) (r : ByteArray) (q : Q w w1) : Inv w.heap.size w1.heap.size (w1.heap.size + 1) ((w1.alloc (Obj.cells #[Value.string r] 9)).alloc (Obj.cells #[Value.slice none 0 0] 85)) [] r ∧
    Below w.heap.size w ((w1.alloc (Obj.cells #[Value.string r] 9)).alloc (Obj.cells #[Value.slice none 0 0] 85)) := by
  refine ⟨⟨.slice none 0 0, ?_, ?_, World.ownsRow_nil _ _ _ _, q.size, by omega⟩, (q.alloc _).alloc _⟩
  · exact (Below.heap_alloc _ _ _ (by simp)).trans (heap_alloc_new w1 _)
  · have := heap_alloc_new (w1.alloc (Obj.cells #[Value.string r] 9)) (Obj.cells #[Value.slice none 0 0] 85)
    simpa using this

set_option maxHeartbeats 2000000 in
theorem takeList_any (s : ByteArray) (w : World) (hs : s.size ≤ 1000000000) :
    Calls Tryz.prog 173 #[.string s] w (TookP w (tls s)) := by
  obtain ⟨⟨n, r, f⟩, htc⟩ : ∃ x, tc s = x := ⟨_, rfl⟩
  have hsz := tc_size s
  have HT := Lib.hid htc
  have HS : Hid (tls s = if f = 0 then tl n r else ([], ⟨#[]⟩, f)) := Lib.hid (by rw [tls, htc])
  rw [htc] at hsz
  obtain ⟨hr, hn⟩ : r.size ≤ s.size ∧ n ≤ 4000 := hsz
  clear htc
  by_cases hf : f = 0
  · subst hf
    go_enter Tryz.func173, Tryz.ntmps173
    go_wp2_with fail
    refine (cutCount_any s w hs HT.out).mono ?_
    rintro e w1 ⟨rfl, q⟩
    obtain ⟨hinv, hbel⟩ := inv_start w w1 r q
    have HI := Lib.hid hinv; have HB := Lib.hid hbel
    clear hinv hbel
    obtain ⟨G, hG⟩ : ∃ G, G = w1.heap.size := ⟨_, rfl⟩
    have HG := Lib.hid hG
    clear hG
    go_wp2_with fail
    go_loopw [10, 22] (fun _ i wr => ∃ (j : Nat) (g : List ByteArray) (x : ByteArray), j ≤ n ∧ g.length ≤ j ∧ x.size ≤ s.size ∧ i = .int .i64 j ∧ Inv w.heap.size w1.heap.size (w1.heap.size + 1) wr g x ∧ Below w.heap.size w wr ∧ Hid (tls s = ahead g (tl (n - j) x))) (fun _ i _ => n - (intOf i).toNat)
    case atStart => exact ⟨0, [], r, Nat.zero_le _, Nat.zero_le _, hr, rfl, HI.out, HB.out, Lib.hid (by rw [HS.out, ahead_nil]; simp)⟩
    case round =>
      clear HI HB
      obtain ⟨j, g, x, hj, hg, hx, rfl, hinv, hbel, HA⟩ := hrel
      by_cases hlt : j < n
      · obtain ⟨⟨y, b, f⟩, htt⟩ : ∃ z, tt x = z := ⟨_, rfl⟩
        have HY := Lib.hid htt
        have hb := tt_size x
        rw [htt] at hb
        have hb' : b.size ≤ s.size := Nat.le_trans hb hx
        clear htt hb
        by_cases hf : f = 0
        · subst hf
          go_wp2_with fail
          refine (next_good _ _ _ g x wr (by omega) (by omega) hinv HY.out).mono ?_
          rintro e w2 ⟨rfl, hinv2, hbel2⟩
          go_wp2_with fail
          go_roundw
          case rel => exact ⟨j + 1, g ++ [y], b, by omega, by rw [List.length_append, List.length_singleton]; omega, hb', by go_num, hinv2, hbel.trans hbel2, Lib.hid (by rw [HA.out, show n - j = (n - (j + 1)) + 1 by omega, ahead_step HY.out])⟩
          case measure => simp [intOf]; omega
        · have HE : Hid (tls s = ([], ⟨#[]⟩, f)) := Lib.hid (by rw [HA.out, show n - j = (n - (j + 1)) + 1 by omega, ahead_bad HY.out hf])
          go_wp2_with fail
          refine (next_bad _ _ _ g x wr (by omega) hinv HY.out (by omega)).mono ?_
          rintro e w2 ⟨rfl, q2⟩
          go_wp2_with fail
          go_ret3
          exact ⟨none, 0, 0, by rw [HE.out]; rfl, by rw [HE.out]; exact Txts.nil _ _, Q.trans hbel q2⟩
      · have HE : Hid (tls s = (g, x, 0)) := Lib.hid (by rw [HA.out, show n - j = 0 by omega, tl]; simp [ahead])
        obtain ⟨v, h1, h2, h3, h4, h5⟩ := hinv
        obtain ⟨A, m, c, rfl⟩ := own_slice h3
        have ht := Lib.hid (Txts.own h3)
        have c1 := cell_of_one h1
        have c2 := cell_of_one h2
        clear h1 h2 h3
        go_wp2_with fail
        go_region
        go_wp2
        go_ret3
        exact ⟨A, m, c, by rw [HE.out]; rfl, by rw [HE.out]; exact ht.out, hbel.drew⟩
  · go_enter Tryz.func173, Tryz.ntmps173
    go_wp2_with fail
    refine (cutCount_any s w hs HT.out).mono ?_
    rintro e w1 ⟨rfl, q⟩
    go_wp2
    go_ret3
    refine ⟨none, 0, 0, by rw [HS.out, if_neg hf]; rfl, by rw [HS.out, if_neg hf]; exact Txts.nil _ _, q.alloc _⟩

/-- The list that octets are, to their end, and the error's number. -/
def whl (s : ByteArray) : List ByteArray × Nat := if (tls s).2.2 = 0 then (if (tls s).2.1.size = 0 then ((tls s).1, 0) else ([], 2)) else ([], (tls s).2.2)
def WholeP (w : World) (r : List ByteArray × Nat) (e : Ending) (w' : World) : Prop :=
  ∃ A n c, e = .returned (.tuple #[.slice A n c, .int .i64 (r.2 : Nat)]) ∧ Txts w' w'.heap.size (.slice A n c) r.1 ∧ Q w w'
theorem nil_of {s : ByteArray} (h : s.size = 0) : s.toList = [] := (nil_text s).2 h
theorem not_nil {s : ByteArray} (h : ¬ s.size = 0) : ¬ s.toList = [] := fun e => h ((nil_text s).1 e)
theorem not_empty {s : ByteArray} (h : ¬ s.size = 0) : (!s.toList.isEmpty) = true := by simp [not_nil h]

set_option maxHeartbeats 1000000 in
theorem whole_any (s : ByteArray) (w : World) (hs : s.size ≤ 1000000000) :
    Calls Tryz.prog 116 #[.string s] w (WholeP w (whl s)) := by
  have HW : Hid (whl s = if (tls s).2.2 = 0 then (if (tls s).2.1.size = 0 then ((tls s).1, 0) else ([], 2)) else ([], (tls s).2.2)) := Lib.hid rfl
  have HT := Lib.hid (takeList_any s w hs)
  obtain ⟨⟨l, r, f⟩, htl⟩ : ∃ x, tls s = x := ⟨_, rfl⟩
  rw [htl] at HW HT
  clear htl
  by_cases hf : f = 0
  · subst hf
    by_cases hr : r.size = 0
    · have hr' := nil_of hr
      have HE : Hid (whl s = (l, 0)) := Lib.hid (by rw [HW.out, if_pos rfl, if_pos hr])
      have HR := Lib.hid hr
      clear hr
      go_enter Tryz.func116, Tryz.ntmps116
      go_wp2_with fail
      refine HT.out.mono ?_
      rintro e w1 ⟨A, n, c, rfl, ht, q⟩
      go_wp2
      go_ret2
      exact ⟨A, n, c, by rw [HE.out]; rfl, by rw [HE.out]; exact ht, q⟩
    · have hr' := not_nil hr
      have hr2 := not_empty hr
      have HE : Hid (whl s = ([], 2)) := Lib.hid (by rw [HW.out, if_pos rfl, if_neg hr])
      go_enter Tryz.func116, Tryz.ntmps116
      go_wp2_with fail
      refine HT.out.mono ?_
      rintro e w1 ⟨A, n, c, rfl, ht, q⟩
      go_wp2
      go_ret2
      exact ⟨none, 0, 0, by rw [HE.out]; rfl, by rw [HE.out]; exact Txts.nil _ _, q⟩
  · have HE : Hid (whl s = ([], f)) := Lib.hid (by rw [HW.out, if_neg hf])
    go_enter Tryz.func116, Tryz.ntmps116
    go_wp2_with fail
    refine HT.out.mono ?_
    rintro e w1 ⟨A, n, c, rfl, ht, q⟩
    go_wp2
    go_ret2
    exact ⟨none, 0, 0, by rw [HE.out]; rfl, by rw [HE.out]; exact Txts.nil _ _, q⟩
end Go.Proofs.YtbilnomafloopaaGreat
