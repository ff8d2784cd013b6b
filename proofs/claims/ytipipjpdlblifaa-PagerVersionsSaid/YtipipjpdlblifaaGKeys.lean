/-
  Contract of the program's Keys.
-/
import Derived.Test.YtipipjpdlblifaaGThings
import Derived.Test.YtipipjpdlblifaaGPage
import Derived.Laws.ResultCell
namespace Go.Proofs.Ytipipjpdlblifaa
open Go.ChangeShapes Go.WideShapes Go.ChangeAt Go.RowKit Go.Shelf
set_option linter.unusedVariables false
set_option linter.unusedSimpArgs false
attribute [local go_sem] Oper.semAt_some

/-- A page as a value. -/
def pgV (vk vg : Value) (more : Bool) (last : ByteArray) : Value := .agg #[vk, vg, .bool more, .string last]
def KeysP (w : World) (P : Pg) (k : Nat) (e : Ending) (w' : World) : Prop :=
  ∃ A1 c1 A2 c2, e = .returned (.tuple #[.agg #[.slice A1 P.keys.length c1, .slice A2 P.grps.length c2, .bool P.more, .string P.last], .int .i64 (k : Nat)]) ∧ Txts w' w'.heap.size (.slice A1 P.keys.length c1) P.keys ∧ Txts w' w'.heap.size (.slice A2 P.grps.length c2) P.grps ∧ Q w w'
/-- The box of a page. -/
def PgB (W : World) (P base : Nat) (g : Pg) : Prop :=
  ∃ A1 c1 A2 c2, Bx W P 29 #[.slice A1 g.keys.length c1, .slice A2 g.grps.length c2, .bool g.more, .string g.last] ∧ RowS base W (.slice A1 g.keys.length c1) g.keys ∧ RowS base W (.slice A2 g.grps.length c2) g.grps ∧ Two (.slice A1 g.keys.length c1) (.slice A2 g.grps.length c2)
theorem pgB_own {β : Type} (P base : Nat) (g : β → Pg) : Own (fun s W => PgB W P base (g s)) := by
  rintro s X Y row ⟨A1, c1, A2, c2, h1, h2, h3, h4⟩ hg hr
  exact ⟨A1, c1, A2, c2, bx_own P 29 (fun _ : Unit => _) () X Y row h1 hg hr, rowS_own base (fun _ : Unit => _) (fun _ => (g s).keys) () X Y row h2 hg hr, rowS_own base (fun _ : Unit => _) (fun _ => (g s).grps) () X Y row h3 hg hr, h4⟩
/-- What stays where a page's box is written, and rows that lie from base on. -/
def Rest (P base : Nat) (W W2 : World) : Prop := KeepsOthers W W2 ∧ (∀ j, j < base → j ≠ P → W2.heap[j]? = W.heap[j]?) ∧ Below P W W2
theorem rest_below {P base : Nat} {W w1 : World} (hb : P < base) (r2 : ∀ k, k < base → w1.heap[k]? = W.heap[k]?) (r3 : KeepsOthers W w1) (r4 : Below base W w1) (i j : Nat) (u z : Value) : Rest P base W ((w1.setCell ⟨P, i, none⟩ u).setCell ⟨P, j, none⟩ z) :=
  ⟨(r3.trans (KeepsOthers.setCell _ _ _)).trans (KeepsOthers.setCell _ _ _), fun k h1 h2 => (heap_set _ P j _ h2).trans ((heap_set _ P i _ h2).trans (r2 k h1)),
    ((Below.mono r4 (show P ≤ base by omega)).setCell (p := ⟨P, i, none⟩) (Nat.le_refl _) _).setCell (p := ⟨P, j, none⟩) (Nat.le_refl _) _⟩
theorem pgB_key {W w1 : World} {P base : Nat} {vg v' : Value} {A1 : Option Addr} {n1 c1 : Nat} {mo la : Value} {ks gs : List ByteArray} {k : ByteArray} {tmp : Obj}
    (hb : Bx W P 29 #[.slice A1 n1 c1, vg, mo, la]) (hk : RowS base W (.slice A1 n1 c1) ks) (hg : RowS base W vg gs) (ht : Two (.slice A1 n1 c1) vg) (hP : P < base) (hW : base ≤ W.heap.size)
    (hown : w1.ownsRow base 9 1 v' (ks.length + 1) (ks.map Value.string ++ [Value.string k])) (hgr : (W.alloc tmp).grownBy w1 (Value.slice A1 n1 c1).ownBlock) (hat : v'.ownBlock = (Value.slice A1 n1 c1).ownBlock ∨ v'.ownBlock = some (W.alloc tmp).heap.size) :
    Bx w1 P 29 #[.slice A1 n1 c1, vg, mo, la] ∧ (Bx ((w1.setCell ⟨P, 0, none⟩ v').setCell ⟨P, 3, none⟩ (.string k)) P 29 #[v', vg, mo, .string k] ∧
      RowS base ((w1.setCell ⟨P, 0, none⟩ v').setCell ⟨P, 3, none⟩ (.string k)) v' (ks ++ [k]) ∧ RowS base ((w1.setCell ⟨P, 0, none⟩ v').setCell ⟨P, 3, none⟩ (.string k)) vg gs ∧ Two v' vg) ∧ Rest P base W ((w1.setCell ⟨P, 0, none⟩ v').setCell ⟨P, 3, none⟩ (.string k)) := by
  obtain ⟨r1, r2, r3, r4⟩ := rowS_more hk hW hown hgr
  obtain ⟨t1, t2⟩ := rowS_two hg ht hat hgr
  have b1 := hb.same (r2 P hP)
  exact ⟨b1, ⟨(b1.set 0 v').set 3 _, (r1.set hP).set hP, (t1.set hP).set hP, t2⟩, rest_below hP r2 r3 r4 _ _ _ _⟩
theorem pgB_grp {W w1 : World} {P base : Nat} {vk v' : Value} {A2 : Option Addr} {n2 c2 : Nat} {mo la : Value} {ks gs : List ByteArray} {k : ByteArray} {tmp : Obj}
    (hb : Bx W P 29 #[vk, .slice A2 n2 c2, mo, la]) (hk : RowS base W vk ks) (hg : RowS base W (.slice A2 n2 c2) gs) (ht : Two vk (.slice A2 n2 c2)) (hP : P < base) (hW : base ≤ W.heap.size)
    (hown : w1.ownsRow base 9 1 v' (gs.length + 1) (gs.map Value.string ++ [Value.string k])) (hgr : (W.alloc tmp).grownBy w1 (Value.slice A2 n2 c2).ownBlock) (hat : v'.ownBlock = (Value.slice A2 n2 c2).ownBlock ∨ v'.ownBlock = some (W.alloc tmp).heap.size) :
    Bx w1 P 29 #[vk, .slice A2 n2 c2, mo, la] ∧ (Bx ((w1.setCell ⟨P, 1, none⟩ v').setCell ⟨P, 3, none⟩ (.string k)) P 29 #[vk, v', mo, .string k] ∧
      RowS base ((w1.setCell ⟨P, 1, none⟩ v').setCell ⟨P, 3, none⟩ (.string k)) vk ks ∧ RowS base ((w1.setCell ⟨P, 1, none⟩ v').setCell ⟨P, 3, none⟩ (.string k)) v' (gs ++ [k]) ∧ Two vk v') ∧ Rest P base W ((w1.setCell ⟨P, 1, none⟩ v').setCell ⟨P, 3, none⟩ (.string k)) := by
  obtain ⟨r1, r2, r3, r4⟩ := rowS_more hg hW hown hgr
  obtain ⟨t1, t2⟩ := rowS_two hk ht.symm hat hgr
  have b1 := hb.same (r2 P hP)
  exact ⟨b1, ⟨(b1.set 1 v').set 3 _, (t1.set hP).set hP, (r1.set hP).set hP, t2.symm⟩, rest_below hP r2 r3 r4 _ _ _ _⟩
/-- The result's box, written, and a block that is no cells turned. -/
theorem page_end {w0 W : World} {R base D : Nat} {g : Pg} {cs : Array Value} {o o' : Obj} {A1 A2 : Option Addr} {c1 c2 : Nat} (h1 : RowS base W (.slice A1 g.keys.length c1) g.keys) (h2 : RowS base W (.slice A2 g.grps.length c2) g.grps)
    (hr : Bx W R 29 cs) (h4 : cs.size = 4) (hR : R < base) (hb : Below w0.heap.size w0 W) (hwR : w0.heap.size ≤ R) (hD : w0.heap.size ≤ D) (hDR : D ≠ R) (hK : W.heap[D]? = some o) (ho : o.isCells = false) :
    let W2 := ((((W.setCell ⟨R, 0, none⟩ (.slice A1 g.keys.length c1)).setCell ⟨R, 1, none⟩ (.slice A2 g.grps.length c2)).setCell ⟨R, 2, none⟩ (.bool g.more)).setCell ⟨R, 3, none⟩ (.string g.last))
    W2.heap[D]? = some o ∧ Bx (W2.putObj D o') R 29 #[.slice A1 g.keys.length c1, .slice A2 g.grps.length c2, .bool g.more, .string g.last] ∧
      Txts (W2.putObj D o') (W2.putObj D o').heap.size (.slice A1 g.keys.length c1) g.keys ∧ Txts (W2.putObj D o') (W2.putObj D o').heap.size (.slice A2 g.grps.length c2) g.grps ∧ Q w0 (W2.putObj D o') := by
  intro W2
  have hK2 : W2.heap[D]? = some o := (heap_set _ R 3 _ hDR).trans ((heap_set _ R 2 _ hDR).trans ((heap_set _ R 1 _ hDR).trans ((heap_set _ R 0 _ hDR).trans hK)))
  have b2 : Bx W2 R 29 #[.slice A1 g.keys.length c1, .slice A2 g.grps.length c2, .bool g.more, .string g.last] := by
    have := (((hr.set 0 (.slice A1 g.keys.length c1)).set 1 (.slice A2 g.grps.length c2)).set 2 (.bool g.more)).set 3 (.string g.last)
    obtain ⟨l⟩ := cs
    match l, h4 with
    | [a, b, c, d], _ => exact this
  have r1 : RowS base W2 _ _ := (((h1.set hR).set hR).set hR).set hR
  have r2 : RowS base W2 _ _ := (((h2.set hR).set hR).set hR).set hR
  have q : Below w0.heap.size w0 W2 := (((hb.setCell (p := ⟨R, 0, none⟩) hwR _).setCell (p := ⟨R, 1, none⟩) hwR _).setCell (p := ⟨R, 2, none⟩) hwR _).setCell (p := ⟨R, 3, none⟩) hwR _
  refine ⟨hK2, b2.same (World.putObj_heap_other (fun e => hDR e.symm)), ?_, ?_, ?_⟩
  · exact RowS.txts (base := base) (ownsRow_putObj r1 _ hK2 ho)
  · exact RowS.txts (base := base) (ownsRow_putObj r2 _ hK2 ho)
  · exact q.grown (grownBy_putObj' W2 D o') (by have := q.size; omega) (fun k e => by cases e; exact hD)
/-- With what the lists have room for. -/
def KeysR (w : World) (P : Pg) (k : Nat) (e : Ending) (w' : World) : Prop :=
  ∃ A1 c1 A2 c2, (P.keys.length ≤ c1 ∧ P.grps.length ≤ c2) ∧ e = .returned (.tuple #[.agg #[.slice A1 P.keys.length c1, .slice A2 P.grps.length c2, .bool P.more, .string P.last], .int .i64 (k : Nat)]) ∧ Txts w' w'.heap.size (.slice A1 P.keys.length c1) P.keys ∧ Txts w' w'.heap.size (.slice A2 P.grps.length c2) P.grps ∧ Q w w'
theorem KeysR.weak {w : World} {P : Pg} {k : Nat} {e : Ending} {w' : World} (h : KeysR w P k e w') : KeysP w P k e w' := by
  obtain ⟨A1, c1, A2, c2, -, h⟩ := h
  exact ⟨A1, c1, A2, c2, h⟩
theorem RowS.cap {base : Nat} {w : World} {A : Option Addr} {n c : Nat} {l : List ByteArray} (h : RowS base w (.slice A n c) l) (hn : n = l.length) : n ≤ c := by
  rcases h.2 with ⟨e, h0⟩ | ⟨g, cap, cur, e, -, -, h1, -⟩
  · injection e with e1 e2 e3; omega
  · injection e with e1 e2 e3; omega
set_option maxRecDepth 100000 in
set_option maxHeartbeats 4000000 in
theorem keys_room (l : List Ent) (v : Value) (p d after : ByteArray) (most : Nat) (w : World) (hR : okI l) (hs : Small l) (hp : hasO 0 60 ko p = true) (hd : hasO 0 1 ko d = true) (hm : pgO after (most : Nat) = true) (ha : after.size ≤ 1000) (ht : Ents w w.heap.size v l) :
    Calls Try.prog 11 #[v, .string p, .string d, .string after, .int .i64 (most : Nat)] w (KeysR w (pageO (thgs p d l) after most) 0) := by
  have hpz := (hasO_size hp).2
  have hdz := (hasO_size hd).2
  have hl := hR.1
  have MC := Lib.hid fun b (q : Q w b) => mayList_any l v p b true (.inl ⟨rfl, hR⟩) hs (by omega) (ht.on q)
  rw [hp] at MC
  have DC := Lib.hid fun b => delim_any d b (by omega)
  rw [hd] at DC
  have PC := Lib.hid fun b => mayPage_any after (most : Nat) b ha
  rw [hm] at PC
  have hform : ∃ A n c, v = .slice A n c := by obtain ⟨A, c, e⟩ := ht.form; exact ⟨A, _, c, e⟩
  have TC := Lib.hid fun b => thingsOf_any v p d b hform
  have hk : ∀ e ∈ l, e.key.size ≤ 1000 ∧ 0 < e.L.length := fun e he => ⟨(hs.2 e he).1, ((okI_iff.1 hR).2.2 e he).2.1⟩
  have HK := Lib.hid hk
  have HT := Lib.hid ht
  obtain ⟨i0, hi, hz0, hz1, hz2⟩ := info_parts info_str
  obtain ⟨A, nn, c, rfl⟩ := hform
  have hmm : most ≤ 1000 := by
    unfold pgO at hm
    simp only [Bool.and_eq_true, decide_eq_true_eq] at hm
    omega
  clear hR hs ht hk hp hd hm
  refine (callsIn_wide (n := 9)).1 ?_
  refine callsIn_of_wp_marks Try.func11 rfl trivial ?_ rfl
  simp only [Try.ntmps11, List.size_toArray, List.length_cons, List.length_nil, Nat.reduceAdd, Nat.reduceSub, Array.replicate_succ, Array.replicate_zero, List.push_toArray, List.append_toArray, List.nil_append, List.cons_append]
  have qa : Q w (((w.alloc (.cells #[.string after] 9)).alloc (.cells #[.int .i64 (most : Nat)] 3)).alloc (.cells #[.slice none 0 0, .slice none 0 0, .bool false, .string ⟨#[]⟩] 29)) := (((Q.refl w).alloc _).alloc _).alloc _
  have ba := ((Bx.new w 9 #[.string after]).alloc (.cells #[.int .i64 (most : Nat)] 3)).alloc (.cells #[.slice none 0 0, .slice none 0 0, .bool false, .string ⟨#[]⟩] 29)
  have bm := (Bx.new (w.alloc (.cells #[.string after] 9)) 3 #[.int .i64 (most : Nat)]).alloc (.cells #[.slice none 0 0, .slice none 0 0, .bool false, .string ⟨#[]⟩] 29)
  have br := Bx.new ((w.alloc (.cells #[.string after] 9)).alloc (.cells #[.int .i64 (most : Nat)] 3)) 29 #[.slice none 0 0, .slice none 0 0, .bool false, .string ⟨#[]⟩]
  simp only [World.size_alloc] at bm br
  gi_wp2_with (first | (refine ⟨trivial, ?_⟩; gi_at_call 26; refine (callsIn_wide.2 (MC.out _ qa)).mono ?_; rintro e1 w1 ⟨rfl, q1⟩) | (refine ⟨trivial, ?_⟩; gi_at_call 27; refine (callsIn_wide.2 (DC.out _)).mono ?_; rintro e2 w2 ⟨rfl, q2⟩; have ba2 := ba.on (q1.trans q2); have ca2 := ba2.cell 0; have bm2 := bm.on (q1.trans q2); have cm2 := bm2.cell 0) | (refine ⟨trivial, ?_⟩; gi_at_call 28; refine (callsIn_wide.2 (PC.out _)).mono ?_; rintro e3 w3 ⟨rfl, q3⟩) | (refine ⟨trivial, ?_⟩; gi_at_call 29; refine (callsIn_wide.2 (TC.out _)).mono ?_; rintro e4 w4 ⟨rfl, rfl⟩))
  obtain ⟨P, hP⟩ : ∃ P, P = w3.heap.size := ⟨_, rfl⟩
  have q03 := ((qa.trans q1).trans q2).trans q3
  have q0 : Q w (w3.alloc (.cells #[.slice none 0 0, .slice none 0 0, .bool false, .string ⟨#[]⟩] 29)) := q03.alloc _
  have q4 := boxed3_q (w3.alloc (.cells #[.slice none 0 0, .slice none 0 0, .bool false, .string ⟨#[]⟩] 29)) (.slice A nn c) p d
  have qx : Q w2 (boxed3 (w3.alloc (.cells #[.slice none 0 0, .slice none 0 0, .bool false, .string ⟨#[]⟩] 29)) (.slice A nn c) p d) := (q3.alloc _).trans q4
  have it : ItT w.heap.size (P + 1) (boxed3 (w3.alloc (.cells #[.slice none 0 0, .slice none 0 0, .bool false, .string ⟨#[]⟩] 29)) (.slice A nn c) p d) (.slice A nn c) l p d := by
    have := boxed3_it (w := w3.alloc (.cells #[.slice none 0 0, .slice none 0 0, .bool false, .string ⟨#[]⟩] 29)) (n₀ := w.heap.size) (p := p) (d := d) q0.size (HT.out.below q0)
    rw [World.size_alloc, ← hP] at this
    exact this
  have bO : Bx (boxed3 (w3.alloc (.cells #[.slice none 0 0, .slice none 0 0, .bool false, .string ⟨#[]⟩] 29)) (.slice A nn c) p d) P 29 #[.slice none 0 0, .slice none 0 0, .bool false, .string ⟨#[]⟩] := by
    rw [hP]; exact (Bx.new w3 _ _).on q4
  have bA := ba2.on qx
  have bM := bm2.on qx
  have bR := (br.on (q1.trans q2)).on qx
  have hwP : w.heap.size + 3 ≤ P := by
    have h1 := (br.on ((q1.trans q2).trans q3)).lt
    rw [hP]; omega
  have hsz : (boxed3 (w3.alloc (.cells #[.slice none 0 0, .slice none 0 0, .bool false, .string ⟨#[]⟩] 29)) (.slice A nn c) p d).heap.size = P + 4 := by rw [boxed3_size, World.size_alloc, hP]
  have hB0 : Below w.heap.size w (boxed3 (w3.alloc (.cells #[.slice none 0 0, .slice none 0 0, .bool false, .string ⟨#[]⟩] 29)) (.slice A nn c) p d) := q0.trans q4
  obtain ⟨W0, hW0⟩ : ∃ W0, W0 = boxed3 (w3.alloc (.cells #[.slice none 0 0, .slice none 0 0, .bool false, .string ⟨#[]⟩] 29)) (.slice A nn c) p d := ⟨_, rfl⟩
  rw [← hW0] at it bO hsz hB0 bA bM bR ⊢
  rw [← hP]
  clear hW0 hP q0 q1 q2 q3 q4 q03 qx MC DC TC PC ba bm br ba2 bm2 ca2 cm2 qa
  obtain ⟨H, hH⟩ : ∃ H, H = w.heap.size := ⟨_, rfl⟩
  rw [← hH] at it bA bM bR hwP hB0 ⊢
  have HT2 : Hid (H = w.heap.size) := Lib.hid hH
  clear hH HT
  refine wpIn_rangeFunc_ownG (F := Fence.wide) rfl (by omega) (gf := 45) (lb := #[.pointer (some ⟨P + 1, 0, none⟩), .pointer (some ⟨P + 1 + 1, 0, none⟩), .pointer (some ⟨P + 1 + 2, 0, none⟩)]) rfl trivial (enters_of Try.func45 (by kernel_rfl) rfl)
    (things_stops (9 - 1) (by omega) (P + 1) H (.slice A nn c) l p d (by omega) HK.out (by omega) (by omega) W0 it) (fun h k => kpB_t h k) (kpB_b (by omega) (by omega)) (Below.refl _ _) (fun _ => rfl)
    (fun pre W => (PgB W P (P + 4) (pgOf (bhd after pre) false) ∧ (Bx W H 9 #[.string after] ∧ Bx W (H + 1) 3 #[.int .i64 (most : Nat)] ∧ Bx W (H + 1 + 1) 29 #[.slice none 0 0, .slice none 0 0, .bool false, .string ⟨#[]⟩])) ∧ ((bhd after pre).length ≤ most ∧ Below H W0 W))
    (fun c pre W => ∃ pre0 x, (c = .exit 0 ∧ pre = pre0 ++ [x] ∧ ltB after x.1 = true ∧ (bhd after pre0).length = most) ∧ (PgB W P (P + 4) (pgOf (bhd after pre0) true) ∧ Bx W (H + 1 + 1) 29 #[.slice none 0 0, .slice none 0 0, .bool false, .string ⟨#[]⟩] ∧ Below H W0 W))
    (OwnFrom.and (Own.from (fun s X Y row hs hg hr => ⟨pgB_own P (P + 4) (fun s => pgOf (bhd after s) false) s X Y row hs.1 hg hr, bx_own H 9 (fun _ : Unit => #[.string after]) () X Y row hs.2.1 hg hr, bx_own (H + 1) 3 (fun _ : Unit => #[.int .i64 (most : Nat)]) () X Y row hs.2.2.1 hg hr, bx_own (H + 1 + 1) 29 (fun _ : Unit => #[.slice none 0 0, .slice none 0 0, .bool false, .string ⟨#[]⟩]) () X Y row hs.2.2.2 hg hr⟩) _) (OwnFrom.and (ownFrom_pure _ _) (ownFrom_below (by omega) (by omega))))
    (fun c s X Y row hs hg hr => by
      obtain ⟨pre0, x, h1, h2, h3, h4⟩ := hs
      exact ⟨pre0, x, h1, pgB_own P (P + 4) (fun _ : Unit => pgOf (bhd after pre0) true) () X Y row h2 hg (fun r e => (hr r e).2), bx_own (H + 1 + 1) 29 (fun _ : Unit => #[.slice none 0 0, .slice none 0 0, .bool false, .string ⟨#[]⟩]) () X Y row h3 hg (fun r e => (hr r e).2), ownFrom_below (β := Unit) (by omega) (by omega) () X Y row h4 hg hr⟩)
    ⟨⟨⟨none, 0, none, 0, bO, RowS.nil _ _, RowS.nil _ _, by intro k e; simp [Value.ownBlock] at e⟩, bA, bM, bR⟩, Nat.zero_le _, Below.refl _ _⟩
    (fun x => { tmps := #[.slice A nn c, .string p, .string d, .string after, .int .i64 (most : Nat), undef, undef, undef, .pointer (some ⟨H, 0, none⟩), .pointer (some ⟨H + 1, 0, none⟩), .pointer (some ⟨H + 1 + 1, 0, none⟩), .int .i64 0, .pointer (some ⟨P, 0, none⟩), .string x.1, .bool x.2, .slice A nn c, .string p, .bool true, .bool false, .bool false, .string d, .bool true, .bool false, .bool false, .bool false, .string after, .int .i64 (most : Nat), .bool true, .bool false, .bool false, undef, .agg #[.slice none 0 0, .slice none 0 0, .bool false, .string ⟨#[]⟩], .slice A nn c, .string p, .string d, itF 45 (P + 1), .string x.1, .bool x.2, undef, undef, undef, undef, undef, undef, undef, undef, undef, undef, undef, undef, undef, undef, undef, undef, undef, undef, undef, undef, undef, undef, undef, undef, undef, undef, undef, undef, undef], defers := [] }) ?assign ?body ?done ?stop
  case assign =>
    intro lp x W K hK
    gi_wp2
    exact hK
  case body =>
    rintro lp pre ⟨k, b⟩ W ⟨⟨⟨A1, c1, A2, c2, hv, hr1, hr2, htw⟩, hbA, hbM, hbR⟩, hlen, hB⟩ hlt
    have hWs : P + 4 ≤ W.heap.size := by have := hB.size; omega
    have ca : W.cell? ⟨H, 0, none⟩ = some (.string after) := hbA.cell 0
    have cm : W.cell? ⟨H + 1, 0, none⟩ = some (.int .i64 (most : Nat)) := hbM.cell 0
    have cp0 := hv.cell 0
    have cp1 := hv.cell 1
    have cp2 := hv.cell 2
    simp only [List.getElem?_toArray, List.getElem?_cons_zero, List.getElem?_cons_succ] at cp0 cp1 cp2
    have f2 := hv.frozen 2
    have hle := ltB_leq k after
    cases hlt2 : ltB after k with
    | false =>
      rw [hlt2] at hle
      have hle2 : (Op.bytesLess k.toList after.toList || k.toList == after.toList) = true := hle
      have hpre : Hid (bhd after (pre ++ [(k, b)]) = bhd after pre) := Lib.hid (bhd_no hlt2)
      clear hle hlt2
      gi_wp2
      refine ⟨KeepsFrom.refl _ _, KpB.refl _ _ _, ⟨⟨?_, hbA, hbM, hbR⟩, by rw [hpre.out]; exact hlen, hB⟩⟩
      rw [hpre.out]; exact ⟨A1, c1, A2, c2, hv, hr1, hr2, htw⟩
    | true =>
      rw [hlt2] at hle
      have hle2 : (Op.bytesLess k.toList after.toList || k.toList == after.toList) = false := hle
      have hle3 : Op.bytesLess k.toList after.toList = false := by cases h : Op.bytesLess k.toList after.toList with
        | false => rfl
        | true => rw [h] at hle2; simp at hle2
      have hle4 : (k.toList == after.toList) = false := by rw [hle3] at hle2; simpa using hle2
      have hpre : Hid (bhd after (pre ++ [(k, b)]) = bhd after pre ++ [(k, b)]) := Lib.hid (bhd_yes hlt2)
      have HL := Lib.hid hlt2
      have hboth := both_len (bhd after pre)
      obtain ⟨T, hT⟩ : ∃ T, T = bhd after pre := ⟨_, rfl⟩
      rw [← hT] at hv hr1 hr2 htw hlen cp0 cp1 hboth hpre
      have HTE := Lib.hid hT
      clear hT hle hlt2
      obtain ⟨ks, hks⟩ : ∃ ks, ks = keysOf T := ⟨_, rfl⟩
      obtain ⟨gs, hgs⟩ : ∃ gs, gs = grpsOf T := ⟨_, rfl⟩
      simp only [pgOf] at hv hr1 hr2 htw cp0 cp1
      rw [← hks] at hv hr1 htw cp0 hboth
      rw [← hgs] at hv hr2 htw cp1 hboth
      have HKS := Lib.hid hks
      have HGS := Lib.hid hgs
      clear hks hgs
      by_cases heq : T.length = most
      · have he : (ks.length : Int) + (gs.length : Int) = (most : Int) := by omega
        gi_wp2
        refine ⟨(KeepsOthers.setCell _ _ _).from _, pre, (k, b), ⟨rfl, rfl, HL.out, by rw [← HTE.out]; exact heq⟩, ?_, hbR.other (by omega) _ _, hB.setCell (p := ⟨P, 2, none⟩) (by show H ≤ P; omega) _⟩
        rw [← HTE.out]
        simp only [pgOf]
        unfold PgB
        rw [← HKS.out, ← HGS.out]
        exact ⟨A1, c1, A2, c2, hv.set 2 _, hr1.set (by omega), hr2.set (by omega), htw⟩
      · have he : ¬ (ks.length : Int) + (gs.length : Int) = (most : Int) := by omega
        have hn1 : ks.length ≤ 1000 := by omega
        have hn2 : gs.length ≤ 1000 := by omega
        cases b with
        | true =>
          gi_wp2_with (gi_at_builtin; refine wpListIn_append_own_at _ rfl _ _ 27 rfl (P + 4) 9 i0 (.string ⟨#[]⟩) 1 16 Try.underlying27 hi hz0 hz1 hz2 rfl (by decide) _ _ _ rfl (World.ownsRow.alloc hr2 _) ⟨W.heap.size, 0, none⟩ 1 1 [.string k] rfl rfl (cell_one_new _ _ _) (by simp [Value.oneCell']) (by unfold maxLen; omega) (by omega) (by simp; omega) ?_; intro v' w1 hown' hgrow _ hat; obtain ⟨g', cap', rfl⟩ := ownsRow_succ hown'; obtain ⟨b1, z, rs⟩ := pgB_grp hv hr1 hr2 htw (by omega) hWs hown' hgrow hat; have d0 : w1.cell? ⟨P, 1, none⟩ = some _ := b1.cell 1; have d1 := b1.frozen 1; have b2 := b1.set 1 (.slice (some ⟨g', 0, none⟩) (gs.length + 1) cap'); have d2 := b2.cell 3; have d3 := b2.frozen 3; simp only [List.setIfInBounds_toArray, List.set_cons_zero, List.set_cons_succ, List.getElem?_toArray, List.getElem?_cons_zero, List.getElem?_cons_succ] at d2)
          obtain ⟨z1, z2, z3, z4⟩ := z
          obtain ⟨s1, s2, s3⟩ := rs
          refine ⟨s1.from _, ⟨Below.mono s3 (by omega), fun j j1 j2 => s2 j (by omega) (by omega)⟩, ⟨⟨?_, hbA.same (s2 _ (by omega) (by omega)), hbM.same (s2 _ (by omega) (by omega)), hbR.same (s2 _ (by omega) (by omega))⟩, by rw [hpre.out, List.length_append, List.length_singleton]; omega, hB.trans (Below.mono s3 (by omega))⟩⟩
          rw [hpre.out]
          simp only [pgOf]
          unfold PgB
          rw [(grpsOf_snoc T k).1, (grpsOf_snoc T k).2, lastT_snoc, ← HKS.out, ← HGS.out]
          simp only [List.length_append, List.length_singleton]
          exact ⟨A1, c1, _, _, z1, z2, z3, z4⟩
        | false =>
          gi_wp2_with (gi_at_builtin; refine wpListIn_append_own_at _ rfl _ _ 27 rfl (P + 4) 9 i0 (.string ⟨#[]⟩) 1 16 Try.underlying27 hi hz0 hz1 hz2 rfl (by decide) _ _ _ rfl (World.ownsRow.alloc hr1 _) ⟨W.heap.size, 0, none⟩ 1 1 [.string k] rfl rfl (cell_one_new _ _ _) (by simp [Value.oneCell']) (by unfold maxLen; omega) (by omega) (by simp; omega) ?_; intro v' w1 hown' hgrow _ hat; obtain ⟨g', cap', rfl⟩ := ownsRow_succ hown'; obtain ⟨b1, z, rs⟩ := pgB_key hv hr1 hr2 htw (by omega) hWs hown' hgrow hat; have d0 : w1.cell? ⟨P, 0, none⟩ = some _ := b1.cell 0; have d1 := b1.frozen 0; have b2 := b1.set 0 (.slice (some ⟨g', 0, none⟩) (ks.length + 1) cap'); have d2 := b2.cell 3; have d3 := b2.frozen 3; simp only [List.setIfInBounds_toArray, List.set_cons_zero, List.set_cons_succ, List.getElem?_toArray, List.getElem?_cons_zero, List.getElem?_cons_succ] at d2)
          obtain ⟨z1, z2, z3, z4⟩ := z
          obtain ⟨s1, s2, s3⟩ := rs
          refine ⟨s1.from _, ⟨Below.mono s3 (by omega), fun j j1 j2 => s2 j (by omega) (by omega)⟩, ⟨⟨?_, hbA.same (s2 _ (by omega) (by omega)), hbM.same (s2 _ (by omega) (by omega)), hbR.same (s2 _ (by omega) (by omega))⟩, by rw [hpre.out, List.length_append, List.length_singleton]; omega, hB.trans (Below.mono s3 (by omega))⟩⟩
          rw [hpre.out]
          simp only [pgOf]
          unfold PgB
          rw [(keysOf_snoc T k).1, (keysOf_snoc T k).2, lastT_snoc, ← HKS.out, ← HGS.out]
          simp only [List.length_append, List.length_singleton]
          exact ⟨_, _, A2, c2, z1, z2, z3, z4⟩
  case done =>
    rintro D ys W hD rfl ⟨⟨hv, hbA, hbM, hbR⟩, hlen, hB⟩ hK
    have hpg := Lib.hid (pageO_all hlen)
    obtain ⟨g, hg⟩ : ∃ g, g = pgOf (bhd after (thgs p d l)) false := ⟨_, rfl⟩
    rw [← hg] at hpg hv
    obtain ⟨A1, c1, A2, c2, hv, hr1, hr2, htw⟩ := hv
    clear hg
    have cp0 := hv.cell 0
    have cp1 := hv.cell 1
    have cp2 := hv.cell 2
    have cp3 := hv.cell 3
    have cr0 := hbR.cell 0
    have cr1 := hbR.cell 1
    have cr2 := hbR.cell 2
    have cr3 := hbR.cell 3
    have fr0 := hbR.frozen 0
    have fr1 := hbR.frozen 1
    have fr2 := hbR.frozen 2
    have fr3 := hbR.frozen 3
    have E := page_end (w0 := w) (D := D) (o' := .deferred none) (g := g) hr1 hr2 hbR rfl (by omega) (by have := hB0.trans hB; rw [HT2.out] at this; exact this) (by rw [← HT2.out]; omega) (by rw [← HT2.out]; omega) (by omega) hK rfl
    gi_wp2
    obtain ⟨e1, e2, e3, e4, e5⟩ := E
    refine ⟨by simp, .inl ⟨_, _, rfl, run_takeDeferred e1, ?_⟩⟩
    have y0 := e2.cell 0
    have y1 := e2.cell 1
    have y2 := e2.cell 2
    have y3 := e2.cell 3
    refine ⟨.tuple #[.agg #[.slice A1 g.keys.length c1, .slice A2 g.grps.length c2, .bool g.more, .string g.last], .int .i64 0], ?_, ?_⟩
    · rw [results_cell_tmp rfl]
      go_simp
    · unfold KeysR
      rw [hpg.out]
      exact ⟨A1, c1, A2, c2, ⟨hr1.cap rfl, hr2.cap rfl⟩, rfl, e3, e4, e5⟩
  case stop =>
    rintro D cc pre W hD hSp ⟨pre0, x, ⟨rfl, rfl, hx, hlen⟩, hv, hbR, hB⟩ hK
    have hpg := Lib.hid (pageO_more hSp hx hlen)
    obtain ⟨g, hg⟩ : ∃ g, g = pgOf (bhd after pre0) true := ⟨_, rfl⟩
    rw [← hg] at hpg hv
    obtain ⟨A1, c1, A2, c2, hv, hr1, hr2, htw⟩ := hv
    clear hg hSp
    have cp0 := hv.cell 0
    have cp1 := hv.cell 1
    have cp2 := hv.cell 2
    have cp3 := hv.cell 3
    have cr0 := hbR.cell 0
    have cr1 := hbR.cell 1
    have cr2 := hbR.cell 2
    have cr3 := hbR.cell 3
    have fr0 := hbR.frozen 0
    have fr1 := hbR.frozen 1
    have fr2 := hbR.frozen 2
    have fr3 := hbR.frozen 3
    have E := page_end (w0 := w) (D := D) (o' := .deferred none) (g := g) hr1 hr2 hbR rfl (by omega) (by have := hB0.trans hB; rw [HT2.out] at this; exact this) (by rw [← HT2.out]; omega) (by rw [← HT2.out]; omega) (by omega) hK rfl
    gi_wp2
    obtain ⟨e1, e2, e3, e4, e5⟩ := E
    refine ⟨by simp, .inl ⟨_, _, rfl, run_takeDeferred e1, ?_⟩⟩
    have y0 := e2.cell 0
    have y1 := e2.cell 1
    have y2 := e2.cell 2
    have y3 := e2.cell 3
    refine ⟨.tuple #[.agg #[.slice A1 g.keys.length c1, .slice A2 g.grps.length c2, .bool g.more, .string g.last], .int .i64 0], ?_, ?_⟩
    · rw [results_cell_tmp rfl]
      go_simp
    · unfold KeysR
      rw [hpg.out]
      exact ⟨A1, c1, A2, c2, ⟨hr1.cap rfl, hr2.cap rfl⟩, rfl, e3, e4, e5⟩
theorem keys_yes (l : List Ent) (v : Value) (p d after : ByteArray) (most : Nat) (w : World) (hR : okI l) (hs : Small l) (hp : hasO 0 60 ko p = true) (hd : hasO 0 1 ko d = true) (hm : pgO after (most : Nat) = true) (ha : after.size ≤ 1000) (ht : Ents w w.heap.size v l) :
    Calls Try.prog 11 #[v, .string p, .string d, .string after, .int .i64 (most : Nat)] w (KeysP w (pageO (thgs p d l) after most) 0) :=
  (keys_room l v p d after most w hR hs hp hd hm ha ht).mono fun _ _ h => h.weak
end Go.Proofs.Ytipipjpdlblifaa
