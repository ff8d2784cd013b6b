/-
  Contract of the program's Things.
-/
import Derived.Test.YtipipjpdlblifaaGBox
import Derived.Test.YtipipjpdlblifaaGMay
namespace Go.Proofs.Ytipipjpdlblifaa
open Go.ChangeShapes Go.WideShapes Go.ChangeAt Go.RowKit Go.Shelf
set_option linter.unusedVariables false
set_option linter.unusedSimpArgs false
attribute [local go_sem] Oper.semAt_some

/-- The world behind things. -/
def boxed3 (w : World) (v : Value) (p d : ByteArray) : World := ((w.alloc (.cells #[v] 22)).alloc (.cells #[.string p] 9)).alloc (.cells #[.string d] 9)
theorem boxed3_size (w : World) (v : Value) (p d : ByteArray) : (boxed3 w v p d).heap.size = w.heap.size + 3 := by simp [boxed3]
theorem boxed3_q (w : World) (v : Value) (p d : ByteArray) : Q w (boxed3 w v p d) := (((Q.refl w).alloc _).alloc _).alloc _
set_option maxHeartbeats 1000000 in
theorem thingsOf_any (v : Value) (p d : ByteArray) (w : World) (hv : ∃ A n c, v = .slice A n c) :
    Calls Try.prog 29 #[v, .string p, .string d] w fun e w' => e = .returned (itF 45 w.heap.size) ∧ w' = boxed3 w v p d := by
  obtain ⟨A, n, c, rfl⟩ := hv
  go_enter Try.func29, Try.ntmps29
  go_wp2
  go_ret
  exact ⟨rfl, rfl⟩
theorem boxed3_it {w : World} {n₀ : Nat} {v : Value} {l : List Ent} {p d : ByteArray} (hn : n₀ ≤ w.heap.size) (ht : Ents w n₀ v l) : ItT n₀ w.heap.size (boxed3 w v p d) v l p d := by
  have h0 : Bx (boxed3 w v p d) w.heap.size 22 #[v] := ((Bx.new w _ _).alloc _).alloc _
  have h1 : Bx (boxed3 w v p d) (w.heap.size + 1) 9 #[.string p] := by
    have := (Bx.new (w.alloc (.cells #[v] 22)) 9 #[.string p]).alloc (.cells #[.string d] 9)
    simpa [boxed3] using this
  have h2 : Bx (boxed3 w v p d) (w.heap.size + 2) 9 #[.string d] := by
    have := (Bx.new ((w.alloc (.cells #[v] 22)).alloc (.cells #[.string p] 9)) 9 #[.string d])
    simpa [boxed3] using this
  exact ⟨h0.cell 0, h1.cell 0, h2.cell 0, ht.below (Below.mono (boxed3_q w v p d) hn), hn, by rw [boxed3_size]; omega⟩
/-- The iterator's contract. -/
theorem things_stops (n : Nat) (hn : 1 ≤ n) (B n₀ : Nat) (v : Value) (l : List Ent) (p d : ByteArray) (hl : l.length ≤ 1000) (hk : ∀ e ∈ l, e.key.size ≤ 1000 ∧ 0 < e.L.length) (hp : p.size ≤ 1000) (hd : d.size ≤ 1000) (w : World) (ht : ItT n₀ B w v l p d) :
    SeqStopsK Fence.wide n Try.prog 45 #[.pointer (some ⟨B, 0, none⟩), .pointer (some ⟨B + 1, 0, none⟩), .pointer (some ⟨B + 2, 0, none⟩)] (fun x : ByteArray × Bool => #[Value.string x.1, Value.bool x.2]) (KpB n₀ B) (fun ys => ys = thgs p d l) (fun pre => pre <+: thgs p d l) l.length w :=
  fun lp J Jx W hW hJ hJx hY h0 => things1_in n hn lp B n₀ v l p d hl hk hp hd J Jx hY W hJ
    (ht.on ⟨Below.mono hW (by have := ht.low; have := ht.lt; omega), fun k h1 h2 => hW.block k (by have := ht.lt; omega)⟩) h0

set_option maxHeartbeats 1000000 in
theorem things_no (l : List Ent) (v : Value) (p d : ByteArray) (w : World) (R : Bool) (hR : chkI l R) (hs : Small l) (hp : p.size ≤ 1000) (hd : d.size ≤ 1000) (ht : Ents w w.heap.size v l) (hno : (R && hasO 0 60 ko p && hasO 0 1 ko d) = false) :
    Calls Try.prog 12 #[v, .string p, .string d] w fun e w' => e = .returned (.tuple #[.slice none 0 0, .int .i64 1]) ∧ Q w w' := by
  have C := Lib.hid (mayList_any l v p w R hR hs hp ht)
  have D := Lib.hid fun b => delim_any d b hd
  clear hR ht
  cases h : R && hasO 0 60 ko p with
  | false =>
    rw [h] at C
    go_enter Try.func12, Try.ntmps12
    go_wp2_with fail
    refine C.out.mono ?_
    rintro e w1 ⟨rfl, q⟩
    go_wp2
    go_ret2
    exact ⟨rfl, q⟩
  | true =>
    rw [h] at C hno
    rw [show hasO 0 1 ko d = false by simpa using hno] at D
    go_enter Try.func12, Try.ntmps12
    go_wp2_with fail
    refine C.out.mono ?_
    rintro e w1 ⟨rfl, q⟩
    go_wp2_with fail
    refine (D.out _).mono ?_
    rintro e w2 ⟨rfl, q2⟩
    go_wp2
    go_ret2
    exact ⟨rfl, q.trans q2⟩

set_option maxRecDepth 100000 in
set_option maxHeartbeats 4000000 in
theorem things_yes (l : List Ent) (v : Value) (p d : ByteArray) (w : World) (hR : okI l) (hs : Small l) (hp : hasO 0 60 ko p = true) (hd : hasO 0 1 ko d = true) (ht : Ents w w.heap.size v l) :
    Calls Try.prog 12 #[v, .string p, .string d] w fun e w' => ∃ v', e = .returned (.tuple #[v', .int .i64 0]) ∧ Txts w' w'.heap.size v' ((thgs p d l).map (·.1)) ∧ Q w w' := by
  have hpz := (hasO_size hp).2
  have hdz := (hasO_size hd).2
  have hl := hR.1
  have MC := Lib.hid fun b (q : Q w b) => mayList_any l v p b true (.inl ⟨rfl, hR⟩) hs (by omega) (ht.on q)
  rw [hp] at MC
  have DC := Lib.hid fun b => delim_any d b (by omega)
  rw [hd] at DC
  have hform : ∃ A n c, v = .slice A n c := by obtain ⟨A, c, e⟩ := ht.form; exact ⟨A, _, c, e⟩
  have TC := Lib.hid fun b => thingsOf_any v p d b hform
  have hk : ∀ e ∈ l, e.key.size ≤ 1000 ∧ 0 < e.L.length := fun e he => ⟨(hs.2 e he).1, ((okI_iff.1 hR).2.2 e he).2.1⟩
  have HK := Lib.hid hk
  have HT := Lib.hid ht
  obtain ⟨i0, hi, hz0, hz1, hz2⟩ := info_parts info_str
  obtain ⟨A, nn, c, rfl⟩ := hform
  clear hR hs ht hk hp hd
  refine (callsIn_wide (n := 9)).1 ?_
  refine callsIn_of_wp_marks Try.func12 rfl trivial ?_ rfl
  simp only [Try.ntmps12, List.size_toArray, List.length_cons, List.length_nil, Nat.reduceAdd, Nat.reduceSub, Array.replicate_succ, Array.replicate_zero, List.push_toArray, List.append_toArray, List.nil_append, List.cons_append]
  gi_wp2_with (first | (refine ⟨trivial, ?_⟩; gi_at_call 26; refine (callsIn_wide.2 (MC.out _ (Q.refl _))).mono ?_; rintro e1 w1 ⟨rfl, q1⟩) | (refine ⟨trivial, ?_⟩; gi_at_call 27; refine (callsIn_wide.2 (DC.out _)).mono ?_; rintro e2 w2 ⟨rfl, q2⟩) | (refine ⟨trivial, ?_⟩; gi_at_call 29; refine (callsIn_wide.2 (TC.out _)).mono ?_; rintro e3 w3 ⟨rfl, rfl⟩))
  obtain ⟨H, hH⟩ : ∃ H, H = w2.heap.size := ⟨_, rfl⟩
  have q0 : Q w (w2.alloc (.cells #[.slice none 0 0] 27)) := (q1.trans q2).alloc _
  have hwH : w.heap.size ≤ H := by rw [hH]; exact (q1.trans q2).size
  have it : ItT w.heap.size (H + 1) (boxed3 (w2.alloc (.cells #[.slice none 0 0] 27)) (.slice A nn c) p d) (.slice A nn c) l p d := by
    have := boxed3_it (w := w2.alloc (.cells #[.slice none 0 0] 27)) (n₀ := w.heap.size) (p := p) (d := d) q0.size (HT.out.below q0)
    rw [World.size_alloc, ← hH] at this
    exact this
  have bO : Bx (boxed3 (w2.alloc (.cells #[.slice none 0 0] 27)) (.slice A nn c) p d) H 27 #[.slice none 0 0] := by
    rw [hH]; exact (Bx.new w2 _ _).on (boxed3_q _ _ _ _)
  have hsz : (boxed3 (w2.alloc (.cells #[.slice none 0 0] 27)) (.slice A nn c) p d).heap.size = H + 4 := by rw [boxed3_size, World.size_alloc, hH]
  have hB0 : Below w.heap.size w (boxed3 (w2.alloc (.cells #[.slice none 0 0] 27)) (.slice A nn c) p d) := q0.trans (boxed3_q _ _ _ _)
  obtain ⟨W0, hW0⟩ : ∃ W0, W0 = boxed3 (w2.alloc (.cells #[.slice none 0 0] 27)) (.slice A nn c) p d := ⟨_, rfl⟩
  rw [← hW0] at it bO hsz hB0 ⊢
  rw [← hH]
  clear hW0 hH q0 q1 q2 MC DC TC
  refine wpIn_rangeFunc_ownG (F := Fence.wide) rfl (by omega) (gf := 45) (lb := #[.pointer (some ⟨H + 1, 0, none⟩), .pointer (some ⟨H + 1 + 1, 0, none⟩), .pointer (some ⟨H + 1 + 2, 0, none⟩)]) rfl trivial (enters_of Try.func45 (by kernel_rfl) rfl)
    (things_stops (9 - 1) (by omega) (H + 1) w.heap.size (.slice A nn c) l p d (by omega) HK.out (by omega) (by omega) W0 it) (fun h k => kpB_t h k) (kpB_b (by omega) (by omega)) (Below.refl _ _) (fun _ => rfl)
    (fun pre W => (∃ v, Bx W H 27 #[v] ∧ RowS (H + 4) W v (pre.map (·.1))) ∧ Below w.heap.size W0 W)
    (fun _ _ _ => False)
    (OwnFrom.and (Own.from (fun s X Y row hs hg hr => by obtain ⟨v, h1, h2⟩ := hs; exact ⟨v, bx_own H 27 (fun _ : Unit => #[v]) () X Y row h1 hg hr, rowS_own (H + 4) (fun _ : Unit => v) (fun _ => s.map (·.1)) () X Y row h2 hg hr⟩) _) (ownFrom_below (by omega) (by omega)))
    (fun _ _ _ _ _ hs _ _ => hs)
    ⟨⟨_, bO, RowS.nil _ _⟩, Below.refl _ _⟩
    (fun x => { tmps := #[.slice A nn c, .string p, .string d, undef, undef, undef, .slice none 0 0, .int .i64 0, .pointer (some ⟨H, 0, none⟩), .string x.1, .slice A nn c, .string p, .bool true, .bool false, .bool false, .string d, .bool true, .bool false, .bool false, .slice A nn c, .string p, .string d, itF 45 (H + 1), .string x.1, .bool x.2, undef, undef, undef, undef, undef], defers := [] }) ?assign ?body ?done ?stop
  case assign =>
    intro lp x W K hK
    gi_wp2
    exact hK
  case body =>
    rintro lp pre x W ⟨⟨v, hv, hrow⟩, hB⟩ hlt
    have hc : W.cell? ⟨H, 0, none⟩ = some v := hv.cell 0
    have hHW := hv.lt
    obtain ⟨m, hm⟩ : ∃ m, m = pre.map (·.1) := ⟨_, rfl⟩
    have hml : m.length < 60 := by rw [hm, List.length_map]; omega
    have HM : Hid ((pre ++ [x]).map (·.1) = m ++ [x.1]) := Lib.hid (by rw [hm]; simp)
    rw [← hm] at hrow
    clear hm
    have hWs : H + 4 ≤ W.heap.size := by have := hB.size; omega
    gi_wp2_with (gi_at_builtin; refine wpListIn_append_own _ rfl _ _ 27 rfl (H + 4) 9 i0 (.string ⟨#[]⟩) 1 16 Try.underlying27 hi hz0 hz1 hz2 rfl (by decide) _ _ _ rfl (World.ownsRow.alloc hrow _) ⟨W.heap.size, 0, none⟩ 1 1 [.string x.1] rfl rfl (cell_one_new _ _ _) (by simp [Value.oneCell']) (by unfold maxLen; omega) (by omega) (by simp; omega) ?_; intro v' w1 hown' hgrow _; obtain ⟨g', cap', rfl⟩ := ownsRow_succ hown'; obtain ⟨r1, r2, r3, r4⟩ := rowS_more hrow hWs hown' hgrow; have bv := hv.same (r2 H (by omega)); have hc1 := bv.cell 0; have hf1 := bv.frozen 0)
    exact ⟨(r3.trans (KeepsOthers.setCell _ _ _)).from _, ⟨(Below.mono r4 (by omega)).setCell (p := ⟨H, 0, none⟩) hwH _, fun k h1 h2 => (heap_set w1 H 0 _ (by omega)).trans (r2 k (by omega))⟩,
      ⟨_, bv.set 0 _, by rw [HM.out]; exact r1.set (by omega)⟩, hB.trans ((Below.mono r4 (by omega)).setCell (p := ⟨H, 0, none⟩) hwH _)⟩
  case done =>
    rintro D ys W hD rfl ⟨⟨v, hv, hrow⟩, hB⟩ hK
    have hc : W.cell? ⟨H, 0, none⟩ = some v := hv.cell 0
    obtain ⟨A2, c2, rfl⟩ := hrow.form
    simp only [List.length_map] at hrow hv hc
    gi_wp2
    refine ⟨by simp, .inl ⟨_, _, rfl, run_takeDeferred hK, ?_⟩⟩
    have hr2 : RowS (H + 4) (W.putObj D (.deferred none)) (.slice A2 (thgs p d l).length c2) ((thgs p d l).map (·.1)) := ownsRow_putObj hrow _ hK rfl
    exact ⟨_, results_tmp2 rfl _ _ _, _, rfl, hr2.txts, (hB0.trans hB).trans (belowK_b (w := w) (Nat.le_refl _) W D _ _ (by omega) hK rfl rfl)⟩
  case stop =>
    rintro D c pre W _ _ h _
    exact h.elim
end Go.Proofs.Ytipipjpdlblifaa
