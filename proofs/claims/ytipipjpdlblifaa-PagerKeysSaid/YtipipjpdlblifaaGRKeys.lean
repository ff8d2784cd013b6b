/-
  Contract of the document's Keys.
-/
import Derived.Test.YtipipjpdlblifaaGRThings
import Derived.Test.YtipipjpdlblifaaGKeys
import Derived.Deep.RegionLaw
import Derived.Deep.AppendLies
namespace Go.Proofs.Ytipipjpdlblifaa
open Go.ChangeShapes Go.WideShapes Go.ChangeAt Go.RowKit
set_option linter.unusedVariables false
set_option linter.unusedSimpArgs false

/-- An entry that is a key of its own, of this name. -/
def hitB (p d nm : ByteArray) (e : Ent) : Bool := isT p e && (!(groupO e.key p d).2 && decide ((tgO e.key p d).1 = nm))
theorem hit_all {p d : ByteArray} {l : List Ent} (hR : okI l) (hp : hasO 0 60 ko p = true) (hd : hasO 0 1 ko d = true) {x : ByteArray × Bool} (hx : x ∈ thgs p d l) : l.any (hitB p d x.1) = !x.2 := by
  obtain ⟨-, hr, hall⟩ := okI_iff.1 hR
  have hk : ∀ e ∈ l, hasO 1 60 ko e.key = true := fun e he => (hall e he).1
  have F := thF_all hr hk hp hd
  obtain ⟨e, he, h1, rfl⟩ := F.comes x hx
  have K := thK (hk e he) hp hd (isT_iff.1 h1).1
  cases h2 : (tgO e.key p d).2 with
  | false =>
    show l.any (hitB p d (tgO e.key p d).1) = true
    rw [List.any_eq_true]
    exact ⟨e, he, by simp [hitB, h1, (K.own h2).2]⟩
  | true =>
    show l.any (hitB p d (tgO e.key p d).1) = false
    rw [List.any_eq_false]
    intro f hf h3
    simp only [hitB, Bool.and_eq_true, decide_eq_true_eq, Bool.not_eq_true'] at h3
    obtain ⟨h4, h5, h6⟩ := h3
    have K2 := thK (hk f hf) hp hd (isT_iff.1 h4).1
    have : tgO f.key p d = tgO e.key p d := by rw [← K2.self, ← K.self, h6]
    rw [tgO_no h5] at this
    rw [← this] at h2
    cases h2
theorem any_succ {α : Type} (f : α → Bool) {l : List α} {i : Nat} (h : i < l.length) : (l.take (i + 1)).any f = ((l.take i).any f || f l[i]) := by
  rw [List.take_succ_eq_append_getElem h, List.any_append]; simp
def RKeysP (w : World) (P : Pg) (e : Ending) (w' : World) : Prop :=
  ∃ A1 c1 A2 c2, e = .returned (.agg #[.slice A1 P.keys.length c1, .slice A2 P.grps.length c2, .bool P.more, .string P.last]) ∧ Txts w' w'.heap.size (.slice A1 P.keys.length c1) P.keys ∧ Txts w' w'.heap.size (.slice A2 P.grps.length c2) P.grps ∧ Q w w'

/-- What an append to one of a page's lists leaves. -/
theorem pgB_key1 {W w1 : World} {P base : Nat} {vg v' : Value} {A1 : Option Addr} {n1 c1 : Nat} {mo la : Value} {ks gs : List ByteArray} {k : ByteArray} {tmp : Obj}
    (hb : Bx W P 29 #[.slice A1 n1 c1, vg, mo, la]) (hk : RowS base W (.slice A1 n1 c1) ks) (hg : RowS base W vg gs) (ht : Two (.slice A1 n1 c1) vg) (hP : P < base) (hW : base ≤ W.heap.size)
    (hown : w1.ownsRow base 9 1 v' (ks.length + 1) (ks.map Value.string ++ [Value.string k])) (hgr : (W.alloc tmp).grownBy w1 (Value.slice A1 n1 c1).ownBlock) (hat : v'.ownBlock = (Value.slice A1 n1 c1).ownBlock ∨ v'.ownBlock = some (W.alloc tmp).heap.size) :
    Bx w1 P 29 #[.slice A1 n1 c1, vg, mo, la] ∧ (Bx (w1.setCell ⟨P, 0, none⟩ v') P 29 #[v', vg, mo, la] ∧
      RowS base (w1.setCell ⟨P, 0, none⟩ v') v' (ks ++ [k]) ∧ RowS base (w1.setCell ⟨P, 0, none⟩ v') vg gs ∧ Two v' vg) ∧ (∀ j, j < base → j ≠ P → (w1.setCell ⟨P, 0, none⟩ v').heap[j]? = W.heap[j]?) ∧ Below P W (w1.setCell ⟨P, 0, none⟩ v') := by
  obtain ⟨r1, r2, r3, r4⟩ := rowS_more hk hW hown hgr
  obtain ⟨t1, t2⟩ := rowS_two hg ht hat hgr
  have b1 := hb.same (r2 P hP)
  exact ⟨b1, ⟨b1.set 0 v', r1.set hP, t1.set hP, t2⟩, fun k h1 h2 => (heap_set _ P 0 _ h2).trans (r2 k h1), (Below.mono r4 (show P ≤ base by omega)).setCell (p := ⟨P, 0, none⟩) (Nat.le_refl _) _⟩
theorem pgB_grp1 {W w1 : World} {P base : Nat} {vk v' : Value} {A2 : Option Addr} {n2 c2 : Nat} {mo la : Value} {ks gs : List ByteArray} {k : ByteArray} {tmp : Obj}
    (hb : Bx W P 29 #[vk, .slice A2 n2 c2, mo, la]) (hk : RowS base W vk ks) (hg : RowS base W (.slice A2 n2 c2) gs) (ht : Two vk (.slice A2 n2 c2)) (hP : P < base) (hW : base ≤ W.heap.size)
    (hown : w1.ownsRow base 9 1 v' (gs.length + 1) (gs.map Value.string ++ [Value.string k])) (hgr : (W.alloc tmp).grownBy w1 (Value.slice A2 n2 c2).ownBlock) (hat : v'.ownBlock = (Value.slice A2 n2 c2).ownBlock ∨ v'.ownBlock = some (W.alloc tmp).heap.size) :
    Bx w1 P 29 #[vk, .slice A2 n2 c2, mo, la] ∧ (Bx (w1.setCell ⟨P, 1, none⟩ v') P 29 #[vk, v', mo, la] ∧
      RowS base (w1.setCell ⟨P, 1, none⟩ v') vk ks ∧ RowS base (w1.setCell ⟨P, 1, none⟩ v') v' (gs ++ [k]) ∧ Two vk v') ∧ (∀ j, j < base → j ≠ P → (w1.setCell ⟨P, 1, none⟩ v').heap[j]? = W.heap[j]?) ∧ Below P W (w1.setCell ⟨P, 1, none⟩ v') := by
  obtain ⟨r1, r2, r3, r4⟩ := rowS_more hg hW hown hgr
  obtain ⟨t1, t2⟩ := rowS_two hk ht.symm hat hgr
  have b1 := hb.same (r2 P hP)
  exact ⟨b1, ⟨b1.set 1 v', t1.set hP, r1.set hP, t2.symm⟩, fun k h1 h2 => (heap_set _ P 1 _ h2).trans (r2 k h1), (Below.mono r4 (show P ≤ base by omega)).setCell (p := ⟨P, 1, none⟩) (Nat.le_refl _) _⟩
theorem page_end0 {w0 W : World} {R base : Nat} {g : Pg} {cs : Array Value} {A1 A2 : Option Addr} {c1 c2 : Nat} (h1 : RowS base W (.slice A1 g.keys.length c1) g.keys) (h2 : RowS base W (.slice A2 g.grps.length c2) g.grps)
    (hr : Bx W R 29 cs) (h4 : cs.size = 4) (hR : R < base) (hb : Below w0.heap.size w0 W) (hwR : w0.heap.size ≤ R) :
    let W2 := ((((W.setCell ⟨R, 0, none⟩ (.slice A1 g.keys.length c1)).setCell ⟨R, 1, none⟩ (.slice A2 g.grps.length c2)).setCell ⟨R, 2, none⟩ (.bool g.more)).setCell ⟨R, 3, none⟩ (.string g.last))
    Bx W2 R 29 #[.slice A1 g.keys.length c1, .slice A2 g.grps.length c2, .bool g.more, .string g.last] ∧
      Txts W2 W2.heap.size (.slice A1 g.keys.length c1) g.keys ∧ Txts W2 W2.heap.size (.slice A2 g.grps.length c2) g.grps ∧ Q w0 W2 := by
  intro W2
  have b2 : Bx W2 R 29 #[.slice A1 g.keys.length c1, .slice A2 g.grps.length c2, .bool g.more, .string g.last] := by
    have := (((hr.set 0 (.slice A1 g.keys.length c1)).set 1 (.slice A2 g.grps.length c2)).set 2 (.bool g.more)).set 3 (.string g.last)
    obtain ⟨l⟩ := cs
    match l, h4 with
    | [a, b, c, d], _ => exact this
  have r1 : RowS base W2 _ _ := (((h1.set hR).set hR).set hR).set hR
  have r2 : RowS base W2 _ _ := (((h2.set hR).set hR).set hR).set hR
  exact ⟨b2, r1.txts, r2.txts, (((hb.setCell (p := ⟨R, 0, none⟩) hwR _).setCell (p := ⟨R, 1, none⟩) hwR _).setCell (p := ⟨R, 2, none⟩) hwR _).setCell (p := ⟨R, 3, none⟩) hwR _⟩
theorem bhd_step {after : ByteArray} {T : List (ByteArray × Bool)} {i : Nat} (h : i < T.length) : bhd after (T.take (i + 1)) = bhd after (T.take i) ++ (if ltB after T[i].1 then [T[i]] else []) := by
  rw [List.take_succ_eq_append_getElem h]
  cases e : ltB after T[i].1 with
  | true => rw [bhd_yes e]; simp
  | false => rw [bhd_no e]; simp
theorem ltB_nil {a b : ByteArray} (h : a.size = 0) (k : 0 < b.size) : ltB a b = true := by
  unfold ltB
  rw [is_nil h]
  cases e : b.toList with
  | nil => have := (nil_text b).1 e; omega
  | cons x r => rfl
set_option maxHeartbeats 8000000 in
set_option maxRecDepth 100000 in
theorem rkeys_key (l : List Ent) (v : Value) (p d : ByteArray) (w0 : World) (hs : Small l) (h0 : ∀ e ∈ l, 0 < e.L.length) (hp : p.size ≤ 1000) (hd : d.size ≤ 1000) (ht : Ents w0 w0.heap.size v l) :
    Hid (∀ i (hi : i < l.length) wr, Q w0 wr → ∃ (a : Addr) (c : Nat) (A2 : Option Addr) (c2 n2 : Nat) (x : ByteArray), v = .slice (some a) l.length c ∧ a.block < w0.heap.size ∧ 
      (∀ d', Q wr d' → d'.cell? (a.add (i * 2)) = some (.string x) ∧ d'.cell? ⟨(a.add (i * 2)).block, (a.add (i * 2)).off + 1, none⟩ = some (.slice A2 n2 c2)) ∧
      Calls Try.prog 34 #[.agg #[.string x, .slice A2 n2 c2], .string p, .string d] wr (fun e' w' => e' = .returned (.tuple #[.string (thO l[i] p d).1, .bool (thO l[i] p d).2]) ∧ Q wr w') ∧
      (∀ b, Calls Try.prog 35 #[.string x, .string p, .string d] b fun e w' => e = .returned (.tuple #[.string (groupO l[i].key p d).1, .bool (groupO l[i].key p d).2]) ∧ Q b w')) := Lib.hid (by
  intro i hi wr q
  obtain ⟨a, c, hv, ha, A2, c2, hvs, hat⟩ := ht.pick i hi
  exact ⟨a, c, A2, c2, l[i].L.length, l[i].key, hv, ha, fun d' q' => hat d' (q.trans q'), rthing_any l[i] _ p d wr (h0 _ (List.getElem_mem hi)) (hs.2 _ (List.getElem_mem hi)).1 hp hd (hvs.on q), fun b => rgroup_any l[i].key p d b (hs.2 _ (List.getElem_mem hi)).1 hp hd⟩)

set_option maxHeartbeats 8000000 in
set_option maxRecDepth 100000 in
theorem rpage_any (l : List Ent) (v : Value) (p d after : ByteArray) (most : Nat) (w : World) (hR : okI l) (hs : Small l) (hp : hasO 0 60 ko p = true) (hd : hasO 0 1 ko d = true) (hmm : most ≤ 1000) (ht : Ents w w.heap.size v l) :
    Calls Try.prog 17 #[v, .string p, .string d, .string after, .int .i64 (most : Nat)] w (RKeysP w (pageO (thgs p d l) after most)) := by
  have hpz := (hasO_size hp).2
  have hdz := (hasO_size hd).2
  have hl := hR.1
  have RT := Lib.hid fun b (q : Q w b) => rthings_any l v p d b hR hs hp hd (ht.on q)
  have HIT := Lib.hid fun x (hx : x ∈ thgs p d l) => hit_all hR hp hd hx
  have F := thF_all (okI_iff.1 hR).2.1 (fun e he => ((okI_iff.1 hR).2.2 e he).1) hp hd
  have hpos : Hid (∀ x ∈ thgs p d l, 0 < x.1.size) := Lib.hid fun x hx => by
    obtain ⟨e, he, h1, h2⟩ := F.what (fun e he => ((okI_iff.1 hR).2.2 e he).1) hp hd hx
    exact h2.pos
  have hTl := F.len
  have KEY := rkeys_key l v p d w hs (fun e he => ((okI_iff.1 hR).2.2 e he).2.1) (by omega) (by omega) ht
  obtain ⟨i0, hi, hz0, hz1, hz2⟩ := info_parts info_str
  obtain ⟨A, c, rfl⟩ := ht.form
  clear hR hs ht hp hd F
  have qa : Q w ((w.alloc (.cells #[.slice none 0 0, .slice none 0 0, .bool false, .string ⟨#[]⟩] 29)).alloc (.cells #[.slice none 0 0, .slice none 0 0, .bool false, .string ⟨#[]⟩] 29)) := ((Q.refl w).alloc _).alloc _
  have br := (Bx.new w 29 #[.slice none 0 0, .slice none 0 0, .bool false, .string ⟨#[]⟩]).alloc (.cells #[.slice none 0 0, .slice none 0 0, .bool false, .string ⟨#[]⟩] 29)
  have bp := Bx.new (w.alloc (.cells #[.slice none 0 0, .slice none 0 0, .bool false, .string ⟨#[]⟩] 29)) 29 #[.slice none 0 0, .slice none 0 0, .bool false, .string ⟨#[]⟩]
  simp only [World.size_alloc] at bp
  obtain ⟨T, hT⟩ : ∃ T, T = thgs p d l := ⟨_, rfl⟩
  have hNames : thN p d l = T.map (·.1) := by rw [hT]; rfl
  rw [hNames] at RT
  rw [← hT] at HIT hpos hTl ⊢
  clear hNames
  have HTT := Lib.hid hT
  clear hT
  go_enter Try.func17, Try.ntmps17
  go_wp2_with fail
  refine (RT.out _ qa).mono ?_
  rintro e w1 ⟨A1, c1, rfl, hA1, htx, q1⟩
  have br1 := br.on q1
  have bp1 := bp.on q1
  have q01 := qa.trans q1
  simp only [World.size_alloc] at hA1
  rw [List.length_map] at htx ⊢
  have TX := Lib.hid htx
  have hwH : w.heap.size + 2 ≤ w1.heap.size := by have := bp1.lt; omega
  clear htx br bp qa q1
  go_wp2_with fail
  go_loopw [13, 14] (fun N I wr => ∃ i n : Nat, i ≤ T.length ∧ I = .int .i64 i ∧ N = .int .i64 n ∧ (PgB wr (w.heap.size + 1) w1.heap.size (pgOf (bhd after (T.take i)) false) ∧ n = (bhd after (T.take i)).length ∧ n ≤ most) ∧ (∀ j, j < w1.heap.size → j ≠ w.heap.size + 1 → wr.heap[j]? = w1.heap[j]?) ∧ Q w wr ∧ w1.heap.size ≤ wr.heap.size) (fun _ I _ => T.length - (intOf I).toNat)
  case atStart => exact ⟨0, 0, Nat.zero_le _, rfl, rfl, ⟨⟨none, 0, none, 0, bp1, RowS.nil _ _, RowS.nil _ _, by intro k e; simp [Value.ownBlock] at e⟩, rfl, Nat.zero_le _⟩, fun _ _ _ => rfl, q01, Nat.le_refl _⟩
  case round =>
    clear q01 bp1
    obtain ⟨i, n, hil, rfl, rfl, ⟨hpg, hn, hnm⟩, hkeep, hq, hb0⟩ := hrel
    have hbH : Bx wr w.heap.size 29 #[.slice none 0 0, .slice none 0 0, .bool false, .string ⟨#[]⟩] := br1.same (hkeep w.heap.size (by omega) (by omega))
    by_cases hlt : i < T.length
    · obtain ⟨a1, k1, e1, f1⟩ := TX.out
      injection e1 with ea eb ec
      subst ea
      clear eb ec
      obtain ⟨a, rfl, ha, hcell⟩ := f1 i (by rw [List.length_map]; exact hlt)
      have hab := hA1 a rfl
      rw [List.getElem_map] at hcell
      have c0 : wr.cell? (a.add i) = some (.string T[i].1) := (World.cell?_of_block (hkeep _ (by rw [add_block]; exact ha) (by rw [add_block]; omega))).trans hcell
      have hST := bhd_step (after := after) hlt
      have hmem := List.getElem_mem hlt
      have HB := Lib.hid (HIT.out _ hmem)
      have hp0 := hpos.out _ hmem
      have hpr : T.take i ++ [T[i]] <+: T := by rw [← List.take_succ_eq_append_getElem hlt]; exact List.take_prefix _ _
      have hitl : (i : Int) < (T.length : Int) := by omega
      obtain ⟨⟨nm, b⟩, hx⟩ : ∃ x, x = T[i] := ⟨_, rfl⟩
      rw [← hx] at c0 hST hp0 hpr HB
      have HPR := Lib.hid hpr
      clear hx hcell hmem hpr f1
      have HSTEP := Lib.hid hST
      simp only at hp0 c0
      clear hST
      obtain ⟨S, hS⟩ : ∃ S, S = bhd after (T.take i) := ⟨_, rfl⟩
      rw [← hS] at hpg hn HSTEP
      have HS := Lib.hid hS
      have HN := Lib.hid hn
      clear hS hn
      have hle := ltB_leq nm after
      have SKIP : Hid (ltB after nm = false → bhd after (T.take (i + 1)) = S) := Lib.hid (fun h => by rw [HSTEP.out]; simp [h])
      have MORE : Hid (ltB after nm = true → bhd after (T.take (i + 1)) = S ++ [(nm, b)]) := Lib.hid (fun h => by rw [HSTEP.out]; simp [h])
      clear HSTEP
      cases hlt2 : ltB after nm with
      | false =>
        rw [hlt2] at hle
        have hle2 : (Op.bytesLess nm.toList after.toList || nm.toList == after.toList) = true := hle
        have ha0 : 0 < after.size := by
          rcases Nat.eq_zero_or_pos after.size with h | h
          · rw [ltB_nil h hp0] at hlt2; cases hlt2
          · exact h
        obtain ⟨n1, n2⟩ := ne_nil ha0
        have HV := Lib.hid (SKIP.out hlt2)
        clear SKIP MORE hle hlt2
        go_wp2
        go_roundw
        case rel => exact ⟨i + 1, n, by omega, by go_num, rfl, ⟨by rw [HV.out]; exact hpg, by rw [HV.out]; exact HN.out, hnm⟩, hkeep, hq, hb0⟩
        case measure => simp [intOf]; omega
      | true =>
        rw [hlt2] at hle
        have hle2 : (Op.bytesLess nm.toList after.toList || nm.toList == after.toList) = false := hle
        have hle3 : Op.bytesLess nm.toList after.toList = false := by cases h : Op.bytesLess nm.toList after.toList with
          | false => rfl
          | true => rw [h] at hle2; simp at hle2
        have hle4 : (nm.toList == after.toList) = false := by rw [hle3] at hle2; simpa using hle2
        have HV := Lib.hid (MORE.out hlt2)
        have HL := Lib.hid hlt2
        clear SKIP MORE hle hlt2
        by_cases hnn : n = most
        · have hpgm : Hid (pageO T after most = pgOf S true) := Lib.hid (by rw [HS.out]; exact pageO_more HPR.out HL.out (by rw [← HS.out, ← HN.out, hnn]))
          obtain ⟨B1, d1, B2, d2, hv, hr1, hr2, htw⟩ := hpg
          obtain ⟨g, hg⟩ : ∃ g, g = pgOf S true := ⟨_, rfl⟩
          rw [← hg] at hpgm
          have hk1 : (pgOf S false).keys = g.keys := by rw [hg]; rfl
          have hk2 : (pgOf S false).grps = g.grps := by rw [hg]; rfl
          have hk3 : (pgOf S false).last = g.last := by rw [hg]; rfl
          have hk4 : g.more = true := by rw [hg]; rfl
          rw [hk1] at hv hr1
          rw [hk2] at hv hr2
          rw [hk3] at hv
          clear hg hk1 hk2 hk3 htw
          subst hnn
          have cp0 := hv.cell 0
          have cp1 := hv.cell 1
          have cp2 := hv.cell 2
          have cp3 := hv.cell 3
          have f1p := hv.frozen 2
          have z0 := hbH.cell 0
          have z1 := hbH.cell 1
          have z2 := hbH.cell 2
          have z3 := hbH.cell 3
          have g0 := hbH.frozen 0
          have g1 := hbH.frozen 1
          have g2 := hbH.frozen 2
          have g3 := hbH.frozen 3
          have hbH2 := hbH.other (show w.heap.size ≠ w.heap.size + 1 by omega) 2 (.bool true)
          have E := page_end0 (w0 := w) (g := g) (R := w.heap.size) (hr1.set (b := w.heap.size + 1) (i := 2) (u := .bool true) (by omega)) (hr2.set (b := w.heap.size + 1) (i := 2) (u := .bool true) (by omega)) hbH2 rfl (by omega) (hq.setCell (p := ⟨w.heap.size + 1, 2, none⟩) (by show w.heap.size ≤ w.heap.size + 1; omega) _) (by omega)
          rw [hk4] at E
          have EE := Lib.hid E
          have HK4 := Lib.hid hk4
          simp only [List.getElem?_toArray, List.getElem?_cons_zero, List.getElem?_cons_succ] at cp0 cp1 cp2 cp3 z0 z1 z2 z3
          clear E hk4 hbH2
          have hempty : (after.toList = [] ∧ after.size = 0) ∨ (¬ after.toList = [] ∧ after.toList.isEmpty = false) := by
            rcases Nat.eq_zero_or_pos after.size with h | h
            · exact .inl ⟨is_nil h, h⟩
            · exact .inr (ne_nil h)
          rcases hempty with ⟨n1, n2⟩ | ⟨n1, n2⟩
          all_goals
            go_wp2
            (try simp only [Exit.inBlock, Exit.then])
            refine bodyPost_ret (v := .agg #[.slice B1 g.keys.length d1, .slice B2 g.grps.length d2, .bool true, .string g.last]) ?_ rfl ?_
            · obtain ⟨e1, e2, e3, e4⟩ := EE.out
              have x0 := e1.cell 0
              have x1 := e1.cell 1
              have x2 := e1.cell 2
              have x3 := e1.cell 3
              simp only [List.getElem?_toArray, List.getElem?_cons_zero, List.getElem?_cons_succ] at x0 x1 x2 x3
              simp [results, Try.results17, go_sem, x0, x1, x2, x3]
            · obtain ⟨e1, e2, e3, e4⟩ := EE.out
              unfold RKeysP
              rw [hpgm.out, HK4.out]
              exact ⟨B1, d1, B2, d2, rfl, e2, e3, e4⟩
        · have hni : ¬ (n : Int) = (most : Int) := by omega
          have hnl : n < most := by omega
          obtain ⟨B1, d1, B2, d2, hv, hr1, hr2, htw⟩ := hpg
          simp only [pgOf] at hv hr1 hr2 htw
          have cq3 := hv.cell 3
          have fq3 := hv.frozen 3
          simp only [List.getElem?_toArray, List.getElem?_cons_zero, List.getElem?_cons_succ] at cq3
          obtain ⟨wA, hwA⟩ : ∃ wA, wA = wr.setCell ⟨w.heap.size + 1, 3, none⟩ (.string nm) := ⟨_, rfl⟩
          have hvA : Bx wA (w.heap.size + 1) 29 #[.slice B1 (keysOf S).length d1, .slice B2 (grpsOf S).length d2, .bool false, .string nm] := by rw [hwA]; exact hv.set 3 _
          have hr1A : RowS w1.heap.size wA (.slice B1 (keysOf S).length d1) (keysOf S) := by rw [hwA]; exact hr1.set (by omega)
          have hr2A : RowS w1.heap.size wA (.slice B2 (grpsOf S).length d2) (grpsOf S) := by rw [hwA]; exact hr2.set (by omega)
          have hkA : ∀ j, j < w1.heap.size → j ≠ w.heap.size + 1 → wA.heap[j]? = w1.heap[j]? := fun j j1 j2 => by rw [hwA]; exact (heap_set _ _ _ _ j2).trans (hkeep j j1 j2)
          have hqA : Q w wA := by rw [hwA]; exact hq.setCell (p := ⟨w.heap.size + 1, 3, none⟩) (by show w.heap.size ≤ w.heap.size + 1; omega) _
          have hbA : w1.heap.size ≤ wA.heap.size := by rw [hwA]; simpa using hb0
          have c0A : ∀ b, Q wA b → b.cell? (a.add i) = some (.string nm) := fun b q => (q.cell (p := a.add i) (by rw [add_block]; omega)).trans ((World.cell?_of_block (by rw [hwA]; exact heap_set _ _ _ _ (by rw [add_block]; omega))).trans c0)
          have C0A := Lib.hid c0A
          have HVA := Lib.hid hvA
          have HR1 := Lib.hid hr1A
          have HR2 := Lib.hid hr2A
          have HKA := Lib.hid hkA
          clear hv hr1 hr2 hvA hr1A hr2A hkA c0A hkeep hb0 hbH hq
          have hempty : (after.toList = [] ∧ after.size = 0) ∨ (¬ after.toList = [] ∧ after.toList.isEmpty = false) := by
            rcases Nat.eq_zero_or_pos after.size with h | h
            · exact .inl ⟨is_nil h, h⟩
            · exact .inr (ne_nil h)
          rcases hempty with ⟨n1, n2⟩ | ⟨n1, n2⟩
          all_goals
            go_wp2_with fail
            rw [← hwA]
            go_loopw [15, 16] (fun K J wr2 => ∃ j : Nat, j ≤ l.length ∧ J = .int .i64 j ∧ K = .bool ((l.take j).any (hitB p d nm)) ∧ Q wA wr2) (fun _ J _ => l.length - (intOf J).toNat)
            case atStart => exact ⟨0, Nat.zero_le _, rfl, by simp, Q.refl _⟩
            case round =>
              obtain ⟨j, hjl, rfl, rfl, qj⟩ := hrel
              by_cases hlj : j < l.length
              · obtain ⟨a2, cc, A2, c2, n2, x, hv2, ha2, hcs, TH, GR⟩ := KEY.out j hlj wr (hqA.trans qj)
                injection hv2 with e1 e2 e3
                subst e1 e3
                obtain ⟨m0, m1⟩ := hcs _ (Q.refl _)
                have hjlt : (j : Int) < (l.length : Int) := by omega
                have HN := Lib.hid (any_succ (hitB p d nm) hlj)
                have HH0 : hitB p d nm l[j] = ((thO l[j] p d).2 && (!(groupO l[j].key p d).2 && decide ((thO l[j] p d).1 = nm))) := by
                  unfold hitB thO
                  cases isT p l[j] <;> simp
                obtain ⟨tx, ib, ht⟩ : ∃ tx ib, thO l[j] p d = (tx, ib) := ⟨_, _, rfl⟩
                obtain ⟨g, gb, hg⟩ : ∃ g gb, groupO l[j].key p d = (g, gb) := ⟨_, _, rfl⟩
                rw [ht] at TH HH0
                rw [hg] at HH0
                simp only [hg] at GR
                rw [HH0] at HN
                obtain ⟨kb, hkb⟩ : ∃ kb, kb = (l.take j).any (hitB p d nm) := ⟨_, rfl⟩
                rw [← hkb] at HN ⊢
                have HTH := Lib.hid TH
                have HGR := Lib.hid GR
                have HCS := Lib.hid hcs
                clear HH0 ht hg TH GR hcs hkb
                cases kb <;> cases ib <;> cases gb <;> by_cases htn : tx = nm
                all_goals
                  have he : (tx.toList == nm.toList) = decide (tx = nm) := eq_texts tx nm
                  simp only [htn, decide_true, decide_false] at he
                  have HE := Lib.hid htn
                  clear htn
                  go_wp2_with fail
                  refine HTH.out.mono ?_
                  rintro e2 w2 ⟨rfl, q2⟩
                  obtain ⟨m2, m3⟩ := HCS.out _ q2
                  go_wp2_with fail
                  refine (HGR.out _).mono ?_
                  rintro e3 w3 ⟨rfl, q3⟩
                  have q03 := (qj.trans q2).trans q3
                  have c3 := C0A.out _ q03
                  go_wp2
                  go_roundw
                  case rel => exact ⟨j + 1, by omega, by go_num, by rw [HN.out]; simp [HE.out], q03⟩
                  case measure => simp [intOf]; omega
              · obtain rfl : j = l.length := by omega
                rw [List.take_length, HB.out]
                have hvz := HVA.out.on qj
                have hr1z := HR1.out.on qj
                have hr2z := HR2.out.on qj
                have hbz : w1.heap.size ≤ wr.heap.size := Nat.le_trans hbA qj.size
                have cz := C0A.out _ qj
                have ck0 := hvz.cell 0
                have ck1 := hvz.cell 1
                have ck2 := (hvz.alloc (.cells #[.string nm] 9)).cell 0
                have ck3 := (hvz.alloc (.cells #[.string nm] 9)).cell 1
                simp only [List.getElem?_toArray, List.getElem?_cons_zero, List.getElem?_cons_succ] at ck0 ck1 ck2 ck3
                have hl0 : (keysOf S).length ≤ 1000 := by have := both_len S; have := HN.out; omega
                have hl1 : (grpsOf S).length ≤ 1000 := by have := both_len S; have := HN.out; omega
                cases b with
                | true =>
                  go_wp2_with fail
                  go_region_law (refine step_append_lies _ rfl (.tmp 108) (.tmp 113) 27 rfl w1.heap.size 9 i0 (.string ⟨#[]⟩) 1 16 Try.underlying27 hi hz0 hz1 hz2 rfl (by decide) (.slice B2 (grpsOf S).length d2) (grpsOf S).length ((grpsOf S).map Value.string) (by simp [Act.eval, Act.put]) (hr2z.on (((Q.refl _).alloc _).drew)) ⟨wr.heap.size, 0, none⟩ 1 1 [.string nm] (by simp [Act.eval, Act.put]) rfl (fun j u h => cell_one_new wr (.string nm) _ j u h) (by simp [Value.oneCell']) (by decide) (by unfold maxLen; omega) (by omega) (by simp; omega) _ rfl ?_; intro g cap w4 hown' hgrow hat hlt4; obtain ⟨b1, z, rs1, rs2⟩ := pgB_grp1 (W := wr.drew) (hvz.on (Q.refl _).drew) (hr1z.on (Q.refl _).drew) (hr2z.on (Q.refl _).drew) htw (by omega) hbz hown' hgrow (hat.elim (fun h => .inl (by rw [h]; rfl)) (fun h => .inr (by rw [h]; rfl))); have d0 : w4.cell? ⟨w.heap.size + 1, 1, none⟩ = some _ := b1.cell 1; have d1 := b1.frozen 1; have ZZ := Lib.hid z; have RS1 := Lib.hid rs1; have RS2 := Lib.hid rs2; clear hown' hgrow hat b1 z rs1 rs2)
                  all_goals
                    go_wp2
                    go_roundw
                    case rel =>
                      obtain ⟨z1, z2, z3, z4⟩ := ZZ.out
                      refine ⟨i + 1, n + 1, by omega, by go_num, by go_num, ⟨?_, ?_, by omega⟩, ?_, ?_, ?_⟩
                      · rw [HV.out]
                        simp only [pgOf]
                        unfold PgB
                        rw [(grpsOf_snoc S nm).1, (grpsOf_snoc S nm).2, lastT_snoc]
                        simp only [List.length_append, List.length_singleton]
                        exact ⟨_, _, _, _, z1, z2, z3, z4⟩
                      · rw [HV.out, List.length_append, List.length_singleton, HN.out]
                      · intro j j1 j2
                        exact (RS1.out j j1 j2).trans ((qj.block j (by omega)).trans (HKA.out j j1 j2))
                      · exact Below.trans (hqA.trans qj).drew (Below.mono RS2.out (show w.heap.size ≤ w.heap.size + 1 by omega))
                      · exact Nat.le_trans hbz RS2.out.size
                    case measure => simp [intOf]; omega
                | false =>
                  go_wp2_with fail
                  go_region_law (refine step_append_lies _ rfl (.tmp 99) (.tmp 104) 27 rfl w1.heap.size 9 i0 (.string ⟨#[]⟩) 1 16 Try.underlying27 hi hz0 hz1 hz2 rfl (by decide) (.slice B1 (keysOf S).length d1) (keysOf S).length ((keysOf S).map Value.string) (by simp [Act.eval, Act.put]) (hr1z.on (((Q.refl _).alloc _).drew)) ⟨wr.heap.size, 0, none⟩ 1 1 [.string nm] (by simp [Act.eval, Act.put]) rfl (fun j u h => cell_one_new wr (.string nm) _ j u h) (by simp [Value.oneCell']) (by decide) (by unfold maxLen; omega) (by omega) (by simp; omega) _ rfl ?_; intro g cap w4 hown' hgrow hat hlt4; obtain ⟨b1, z, rs1, rs2⟩ := pgB_key1 (W := wr.drew) (hvz.on (Q.refl _).drew) (hr1z.on (Q.refl _).drew) (hr2z.on (Q.refl _).drew) htw (by omega) hbz hown' hgrow (hat.elim (fun h => .inl (by rw [h]; rfl)) (fun h => .inr (by rw [h]; rfl))); have d0 : w4.cell? ⟨w.heap.size + 1, 0, none⟩ = some _ := b1.cell 0; have d1 := b1.frozen 0; have ZZ := Lib.hid z; have RS1 := Lib.hid rs1; have RS2 := Lib.hid rs2; clear hown' hgrow hat b1 z rs1 rs2)
                  all_goals
                    go_wp2
                    go_roundw
                    case rel =>
                      obtain ⟨z1, z2, z3, z4⟩ := ZZ.out
                      refine ⟨i + 1, n + 1, by omega, by go_num, by go_num, ⟨?_, ?_, by omega⟩, ?_, ?_, ?_⟩
                      · rw [HV.out]
                        simp only [pgOf]
                        unfold PgB
                        rw [(keysOf_snoc S nm).1, (keysOf_snoc S nm).2, lastT_snoc]
                        simp only [List.length_append, List.length_singleton]
                        exact ⟨_, _, _, _, z1, z2, z3, z4⟩
                      · rw [HV.out, List.length_append, List.length_singleton, HN.out]
                      · intro j j1 j2
                        exact (RS1.out j j1 j2).trans ((qj.block j (by omega)).trans (HKA.out j j1 j2))
                      · exact Below.trans (hqA.trans qj).drew (Below.mono RS2.out (show w.heap.size ≤ w.heap.size + 1 by omega))
                      · exact Nat.le_trans hbz RS2.out.size
                    case measure => simp [intOf]; omega
    · obtain rfl : i = T.length := by omega
      have hpgm : Hid (pageO T after most = pgOf (bhd after T) false) := Lib.hid (pageO_all (by rw [List.take_length] at hn; omega))
      rw [List.take_length] at hpg
      obtain ⟨g, hg⟩ : ∃ g, g = pgOf (bhd after T) false := ⟨_, rfl⟩
      rw [← hg] at hpgm hpg
      obtain ⟨B1, d1, B2, d2, hv, hr1, hr2, htw⟩ := hpg
      clear hg htw hn
      have cp0 := hv.cell 0
      have cp1 := hv.cell 1
      have cp2 := hv.cell 2
      have cp3 := hv.cell 3
      have z0 := hbH.cell 0
      have z1 := hbH.cell 1
      have z2 := hbH.cell 2
      have z3 := hbH.cell 3
      have g0 := hbH.frozen 0
      have g1 := hbH.frozen 1
      have g2 := hbH.frozen 2
      have g3 := hbH.frozen 3
      have EE := Lib.hid (page_end0 (w0 := w) (g := g) (R := w.heap.size) hr1 hr2 hbH rfl (by omega) hq (by omega))
      simp only [List.getElem?_toArray, List.getElem?_cons_zero, List.getElem?_cons_succ] at cp0 cp1 cp2 cp3 z0 z1 z2 z3
      go_wp2
      (try simp only [Exit.inBlock, Exit.then])
      refine bodyPost_ret (v := .agg #[.slice B1 g.keys.length d1, .slice B2 g.grps.length d2, .bool g.more, .string g.last]) ?_ rfl ?_
      · obtain ⟨e1, e2, e3, e4⟩ := EE.out
        have x0 := e1.cell 0
        have x1 := e1.cell 1
        have x2 := e1.cell 2
        have x3 := e1.cell 3
        simp only [List.getElem?_toArray, List.getElem?_cons_zero, List.getElem?_cons_succ] at x0 x1 x2 x3
        simp [results, Try.results17, go_sem, x0, x1, x2, x3]
      · obtain ⟨e1, e2, e3, e4⟩ := EE.out
        unfold RKeysP
        rw [hpgm.out]
        exact ⟨B1, d1, B2, d2, rfl, e2, e3, e4⟩
end Go.Proofs.Ytipipjpdlblifaa
