/-
  The iterator of an index's things.
-/
import Derived.RangeFuncNested
import Derived.RangeFuncBound
import Derived.RangeFuncCalls
import Derived.RangeFuncLeaves
import Derived.Shelf.Abstract
import Derived.Shelf.RegionOpen
import Derived.OwnWalkIn
import Derived.TacticsInMore
import Derived.LoopNIn
import Derived.LoopIn
import Derived.Maps.AppendAt
import Derived.Test.YtipipjpdlblifaaGThing
namespace Go.Proofs.Ytipipjpdlblifaa
open Go.ChangeShapes Go.WideShapes Go.ChangeAt Go.RowKit Go.Shelf
set_option linter.unusedVariables false
set_option linter.unusedSimpArgs false
attribute [local go_sem] Oper.semAt_some

/-- Nothing has changed below n₀, nor in the boxes B and on. -/
def KpB (n₀ B : Nat) (W W' : World) : Prop := Below n₀ W W' ∧ ∀ k, B ≤ k → k < B + 3 → W'.heap[k]? = W.heap[k]?
theorem KpB.refl (n₀ B : Nat) (W : World) : KpB n₀ B W W := ⟨Below.refl _ _, fun _ _ _ => rfl⟩
theorem kpB_t {n₀ B : Nat} {x y z : World} (h : KpB n₀ B x y) (k : KpB n₀ B y z) : KpB n₀ B x z := ⟨h.1.trans k.1, fun i h1 h2 => (k.2 i h1 h2).trans (h.2 i h1 h2)⟩
theorem kpB_b {n₀ B : Nat} {w : World} (hn : n₀ ≤ w.heap.size) (hB : B + 3 ≤ w.heap.size) (W : World) (l : Nat) (o o' : Obj) (hl : w.heap.size ≤ l) (h : W.heap[l]? = some o) (h1 : o.isCells = false) (h2 : o.isWalk = false) : KpB n₀ B W (W.putObj l o') :=
  ⟨belowK_b hn W l o o' hl h h1 h2, fun k k1 k2 => World.putObj_heap_other (by omega)⟩
theorem Q.grown {w w' : World} (q : Q w w') : w.grownBy w' none := ⟨q.os, q.tape, q.output, q.size, fun k hk _ => q.block k hk⟩
theorem KpB.grown {n₀ B : Nat} {W W' W2 : World} (h : KpB n₀ B W W') (g : W'.grownBy W2 none) (h1 : n₀ ≤ W'.heap.size) (h2 : B + 3 ≤ W'.heap.size) : KpB n₀ B W W2 :=
  ⟨h.1.grown g h1 (fun k e => by cases e), fun k k1 k2 => (g.block k (by omega) (by simp)).trans (h.2 k k1 k2)⟩
/-- What the iterator of things reads: three boxes, and the index. -/
structure ItT (n₀ B : Nat) (W : World) (v : Value) (l : List Ent) (p d : ByteArray) : Prop where
  b0 : W.cell? ⟨B, 0, none⟩ = some v
  b1 : W.cell? ⟨B + 1, 0, none⟩ = some (.string p)
  b2 : W.cell? ⟨B + 2, 0, none⟩ = some (.string d)
  ents : Ents W n₀ v l
  low : n₀ ≤ B
  lt : B + 3 ≤ W.heap.size
theorem ItT.on {n₀ B : Nat} {W W' : World} {v : Value} {l : List Ent} {p d : ByteArray} (h : ItT n₀ B W v l p d) (k : KpB n₀ B W W') : ItT n₀ B W' v l p d :=
  ⟨(World.cell?_of_block (a := ⟨B, 0, none⟩) (k.2 B (by omega) (by omega))).trans h.b0, (World.cell?_of_block (a := ⟨B + 1, 0, none⟩) (k.2 (B + 1) (by omega) (by omega))).trans h.b1, (World.cell?_of_block (a := ⟨B + 2, 0, none⟩) (k.2 (B + 2) (by omega) (by omega))).trans h.b2, h.ents.below k.1, h.low, Nat.le_trans h.lt k.1.size⟩
/-- One entry, as it lies. -/
theorem Ents.at {w : World} {B : Nat} {v : Value} {l : List Ent} (h : Ents w B v l) (i : Nat) (hi : i < l.length) :
    ∃ (a : Addr) (c : Nat), v = .slice (some a) l.length c ∧ a.block < B ∧ ∃ A2 c2, Vers w B (.slice A2 l[i].L.length c2) l[i].L ∧
      w.cell? (a.add (i * 2)) = some (.string l[i].key) ∧ w.cell? ⟨(a.add (i * 2)).block, (a.add (i * 2)).off + 1, none⟩ = some (.slice A2 l[i].L.length c2) := by
  obtain ⟨A, c, rfl, -, -, -, f⟩ := h
  obtain ⟨a, rfl, ha, h1, u, h2, h3⟩ := f i hi
  obtain ⟨A2, c2, rfl⟩ := h3.form
  exact ⟨a, c, rfl, ha, A2, c2, h3, h1, h2⟩
theorem thgs_prefix (p d : ByteArray) (l : List Ent) (i : Nat) : thgs p d (l.take i) <+: thgs p d l := by
  have step : ∀ (m : List Ent) (acc : List (ByteArray × Bool)), acc <+: m.foldl (stepT p d) acc := by
    intro m
    induction m with
    | nil => intro acc; exact List.prefix_refl _
    | cons e r ih =>
      intro acc
      refine List.IsPrefix.trans ?_ (ih _)
      unfold stepT
      split
      · split
        · exact List.prefix_refl _
        · exact List.prefix_append _ _
      · exact List.prefix_refl _
  conv => rhs; rw [← List.take_append_drop i l]
  rw [thgs, thgs, List.foldl_append]
  exact step _ _
theorem thgs_len (p d : ByteArray) (l : List Ent) (i : Nat) : (thgs p d (l.take i)).length ≤ i := by
  induction i with
  | zero => simp [thgs]
  | succ i ih =>
    by_cases h : i < l.length
    · rw [thgs_succ p d h, stepT]
      split
      · split
        · omega
        · simp; omega
      · omega
    · rw [List.take_of_length_le (by omega)]; rw [List.take_of_length_le (by omega)] at ih; omega
/-- The iterator's value. -/
abbrev itF (f B : Nat) : Value := .func (.func f) #[] #[.pointer (some ⟨B, 0, none⟩), .pointer (some ⟨B + 1, 0, none⟩), .pointer (some ⟨B + 2, 0, none⟩)]

set_option maxRecDepth 100000 in
set_option maxHeartbeats 4000000 in
theorem things1_in (n : Nat) (hn : 1 ≤ n) (lp B n₀ : Nat) (v : Value) (l : List Ent) (p d : ByteArray) (hl : l.length ≤ 1000) (hk : ∀ e ∈ l, e.key.size ≤ 1000 ∧ 0 < e.L.length) (hp : p.size ≤ 1000) (hd : d.size ≤ 1000) (J Jx : List (ByteArray × Bool) → World → Prop)
    (hY : ∀ pre (x : ByteArray × Bool) W, J pre W → pre.length < l.length → YieldAt Fence.wide (n - 1) Try.prog lp #[.string x.1, .bool x.2] W fun e W' =>
      (e = .returned (.bool true) ∧ J (pre ++ [x]) W' ∧ KpB n₀ B W W') ∨ (e = .returned (.bool false) ∧ Jx (pre ++ [x]) W'))
    (W : World) (hJ : AbidesFrom W.heap.size J) (ht : ItT n₀ B W v l p d) (h0 : J [] W) :
    CallsIn Fence.wide n Try.prog 45 #[.func (.yield lp) #[] #[], .pointer (some ⟨B, 0, none⟩), .pointer (some ⟨B + 1, 0, none⟩), .pointer (some ⟨B + 2, 0, none⟩)] W fun e W' => (∃ v, e = .returned v) ∧
      ((∃ ys, ys = thgs p d l ∧ J ys W') ∨ (∃ pre, pre <+: thgs p d l ∧ Jx pre W')) := by
  have HT := Lib.hid ht
  have HK := Lib.hid hk
  have c0 := ht.b0
  obtain ⟨A, c, rfl⟩ := ht.ents.form
  have HY := Lib.hid hY
  have HJ := Lib.hid hJ
  clear ht hk hY hJ
  refine callsIn_of_wp Try.func45 rfl trivial ?_ rfl
  simp only [Try.ntmps45, List.size_toArray, List.length_cons, List.length_nil, Nat.reduceAdd, Nat.reduceSub, Array.replicate_succ, Array.replicate_zero, List.push_toArray, List.append_toArray, List.nil_append, List.cons_append]
  gi_wp2
  gi_loopw [5, 12] (fun z i wr => ∃ k : Nat, k ≤ l.length ∧ i = .int .i64 k ∧ z = .string (lastT (thgs p d (l.take k))) ∧ J (thgs p d (l.take k)) wr ∧ KpB n₀ B W wr)
    (fun _ i _ => l.length - (intOf i).toNat)
  case atStart => exact ⟨0, Nat.zero_le _, rfl, rfl, h0, KpB.refl _ _ _⟩
  case round =>
    obtain ⟨k, hk, rfl, rfl, hJs, hkp⟩ := hrel
    have hI := HT.out.on hkp
    have hlow := hI.low
    have hltB := hI.lt
    by_cases hlt : k < l.length
    · obtain ⟨a, c', hv, ha, A2, c2, hvs, d0, d1⟩ := hI.ents.at k hlt
      injection hv with e1 e2 e3
      subst e1 e3
      have b1 := hI.b1
      have b2 := hI.b2
      obtain ⟨hx, hn0⟩ := HK.out _ (List.getElem_mem hlt)
      have hkt : (k : Int) < (l.length : Int) := by omega
      obtain ⟨m, L, hL⟩ : ∃ m L, l[k].L = m :: L := by cases h : l[k].L with
        | nil => rw [h] at hn0; simp at hn0
        | cons m L => exact ⟨m, L, rfl⟩
      obtain ⟨a2, hA2, ha2, hat⟩ : ∃ a2, A2 = some a2 ∧ a2.block < n₀ ∧ At wr a2 m := by
        obtain ⟨A', c3, e, -, -, -, f⟩ := hvs
        injection e with e1 e2 e3
        obtain ⟨a2, rfl, h2, h3⟩ := f 0 hn0
        refine ⟨a2, e1, h2, ?_⟩
        rw [Nat.zero_mul, show a2.add 0 = a2 by cases a2; simp [Addr.add]] at h3
        simpa [hL] using h3
      subst hA2
      have hm : hdM l[k] = m.mark := by simp [hdM, hL]
      have S := thgs_succ p d hlt
      have N1 : Hid (isT p l[k] = false → thgs p d (l.take (k + 1)) = thgs p d (l.take k)) := Lib.hid (fun h => by rw [S, stepT_no h])
      have N2 : Hid (isT p l[k] = true → lastT (thgs p d (l.take k)) = (tgO l[k].key p d).1 → thgs p d (l.take (k + 1)) = thgs p d (l.take k)) := Lib.hid (fun h h2 => by rw [S, stepT_same h h2])
      have N3 : Hid (isT p l[k] = true → ¬ lastT (thgs p d (l.take k)) = (tgO l[k].key p d).1 → thgs p d (l.take (k + 1)) = thgs p d (l.take k) ++ [tgO l[k].key p d]) := Lib.hid (fun h h2 => by rw [S, stepT_more h h2])
      have HI : isT p l[k] = (underO l[k].key p && !m.mark) := by rw [isT, hm]
      rw [HI] at N1 N2 N3
      clear S HI hm hL
      have hlen := Nat.lt_of_le_of_lt (thgs_len p d l k) hlt
      obtain ⟨T, hT⟩ : ∃ T, T = thgs p d (l.take k) := ⟨_, rfl⟩
      rw [← hT] at N1 N2 N3 hlen hJs ⊢
      have hpre := thgs_prefix p d l (k + 1)
      obtain ⟨T2, hT2⟩ : ∃ T2, T2 = thgs p d (l.take (k + 1)) := ⟨_, rfl⟩
      rw [← hT2] at N1 N2 N3 hpre
      obtain ⟨x, hxk⟩ : ∃ x, x = l[k].key := ⟨_, rfl⟩
      obtain ⟨n2, hn2⟩ : ∃ n2, n2 = l[k].L.length := ⟨_, rfl⟩
      have hn3 : (0 : Int) < (n2 : Int) := by omega
      rw [← hxk] at N1 N2 N3 hx d0
      rw [← hn2] at d1
      have HG : Hid (tgO x p d = if (groupO x p d).2 then ((groupO x p d).1, true) else (x, false)) := Lib.hid rfl
      have HT2 := Lib.hid hT2
      have HTT := Lib.hid hT
      have HPRE := Lib.hid hpre
      have U := Lib.hid fun b => under_any x p b hx hp
      have G := Lib.hid fun b => group_any x p d b hx hp hd
      obtain ⟨g, b, hgb⟩ : ∃ g b, groupO x p d = (g, b) := ⟨_, _, rfl⟩
      rw [hgb] at G HG
      obtain ⟨M, hM⟩ : ∃ M, M = m.mark := ⟨_, rfl⟩
      obtain ⟨UN, hUN⟩ : ∃ UN, UN = underO x p := ⟨_, rfl⟩
      rw [← hUN] at U N1 N2 N3
      rw [← hM] at N1 N2 N3
      obtain ⟨z, hz⟩ : ∃ z, z = lastT T := ⟨_, rfl⟩
      rw [← hz] at N2 N3 ⊢
      have HZ := Lib.hid hz
      have ct : ∀ b, Q wr b → b.cell? ⟨a2.block, a2.off + 2, none⟩ = some (.bool M) := fun b q => by
        obtain ⟨-, -, h2, -⟩ := hat
        rw [hM]; exact (q.cell (p := ⟨a2.block, a2.off + 2, none⟩) (by show a2.block < wr.heap.size; omega)).trans h2
      have hcb : ∀ B2, B ≤ B2 → B2 < B + 3 → ∀ b, Q wr b → b.cell? ⟨B2, 0, none⟩ = wr.cell? ⟨B2, 0, none⟩ := fun B2 h1 h2 b q => q.cell (p := ⟨B2, 0, none⟩) (by show B2 < wr.heap.size; omega)
      have qa := (Q.refl wr).alloc (.cells #[.string x, .slice (some a2) n2 c2] 61)
      have CT := Lib.hid ct
      have f1 := (hcb (B + 1) (by omega) (by omega) _ qa).trans b1
      have BX : Hid (∀ b, Q (wr.alloc (.cells #[.string x, .slice (some a2) n2 c2] 61)) b → b.cell? ⟨wr.heap.size, 0, none⟩ = some (.string x) ∧ b.cell? ⟨wr.heap.size, 1, none⟩ = some (.slice (some a2) n2 c2)) := Lib.hid (fun b q => boxE_of q)
      have CB := Lib.hid (fun b (q : Q wr b) => (hcb (B + 2) (by omega) (by omega) b q).trans b2)
      have hwW := hkp.1.size
      -- what goes on: the same list, or one more
      have HJ2 : Hid (∀ S b, J S wr → Q wr b → J S b ∧ KpB n₀ B W b) := Lib.hid (fun S b hj q => ⟨HJ.out S wr b none hj q.grown (fun r e => by cases e), hkp.grown q.grown (by omega) (by omega)⟩)
      have HK2 := Lib.hid (fun b (h : KpB n₀ B wr b) => kpB_t hkp h)
      clear hcb ct hat hpre hT hT2 hxk hn2 hgb hM hUN hz hkp hI hvs b1 b2 ha2 hn0
      cases UN with
      | false =>
        have HV := Lib.hid (N1.out (by simp))
        clear N1 N2 N3
        gi_wp2_with (refine ⟨trivial, ?_⟩; gi_at_call 46; refine (callsIn_wide.2 (U.out _)).mono ?_; rintro e1 w1 ⟨rfl, rfl⟩)
        go_roundw
        case rel =>
          obtain ⟨j1, j2⟩ := HJ2.out T _ hJs qa
          exact ⟨k + 1, by omega, by go_num, by rw [← HT2.out, HV.out, HZ.out], by rw [← HT2.out, HV.out]; exact j1, j2⟩
        case measure => simp [intOf]; omega
      | true =>
        have ct1 := CT.out _ qa
        have f2 := CB.out _ qa
        obtain ⟨x0, x1⟩ := BX.out _ (Q.refl _)
        cases M with
        | true =>
          have HV := Lib.hid (N1.out (by simp))
          clear N1 N2 N3
          gi_wp2_with (refine ⟨trivial, ?_⟩; gi_at_call 46; refine (callsIn_wide.2 (U.out _)).mono ?_; rintro e1 w1 ⟨rfl, rfl⟩)
          go_roundw
          case rel =>
            obtain ⟨j1, j2⟩ := HJ2.out T _ hJs qa
            exact ⟨k + 1, by omega, by go_num, by rw [← HT2.out, HV.out, HZ.out], by rw [← HT2.out, HV.out]; exact j1, j2⟩
          case measure => simp [intOf]; omega
        | false =>
          obtain ⟨t, ht⟩ : ∃ t, t = (if b = true then (g, true) else (x, false) : ByteArray × Bool) := ⟨_, rfl⟩
          have HTG : Hid (tgO x p d = t) := Lib.hid (by rw [HG.out, ht])
          by_cases q : z = t.1
          · have HV := Lib.hid (N2.out (by simp) (by rw [HTG.out]; exact q))
            clear N1 N2 N3 HG
            have he : (t.1.toList == z.toList) = true := by rw [q]; simp
            cases b with
            | true =>
              obtain rfl : t = (g, true) := by rw [ht]; simp
              clear q ht
              gi_wp2_with (first | (refine ⟨trivial, ?_⟩; gi_at_call 46; refine (callsIn_wide.2 (U.out _)).mono ?_; rintro e1 w1 ⟨rfl, rfl⟩) | (refine ⟨trivial, ?_⟩; gi_at_call 47; refine (callsIn_wide.2 (G.out _)).mono ?_; rintro e2 w2 ⟨rfl, q2⟩; have x0' := (BX.out _ q2).1))
              go_roundw
              case rel =>
                obtain ⟨j1, j2⟩ := HJ2.out T _ hJs (qa.trans q2)
                exact ⟨k + 1, by omega, by go_num, by rw [← HT2.out, HV.out, HZ.out], by rw [← HT2.out, HV.out]; exact j1, j2⟩
              case measure => simp [intOf]; omega
            | false =>
              obtain rfl : t = (x, false) := by rw [ht]; simp
              clear q ht
              gi_wp2_with (first | (refine ⟨trivial, ?_⟩; gi_at_call 46; refine (callsIn_wide.2 (U.out _)).mono ?_; rintro e1 w1 ⟨rfl, rfl⟩) | (refine ⟨trivial, ?_⟩; gi_at_call 47; refine (callsIn_wide.2 (G.out _)).mono ?_; rintro e2 w2 ⟨rfl, q2⟩; have x0' := (BX.out _ q2).1))
              go_roundw
              case rel =>
                obtain ⟨j1, j2⟩ := HJ2.out T _ hJs (qa.trans q2)
                exact ⟨k + 1, by omega, by go_num, by rw [← HT2.out, HV.out, HZ.out], by rw [← HT2.out, HV.out]; exact j1, j2⟩
              case measure => simp [intOf]; omega
          · have HV := Lib.hid (N3.out (by simp) (by rw [HTG.out]; exact q))
            rw [HTG.out] at HV
            clear N1 N2 N3 HG
            have he : (t.1.toList == z.toList) = false := key_ne fun e => q e.symm
            have HYk := Lib.hid (fun b (h : Q wr b) => HY.out T t b (HJ2.out T b hJs h).1 hlen)
            cases b with
            | true =>
              obtain rfl : t = (g, true) := by rw [ht]; simp
              clear q ht
              gi_wp2_with (first | (refine ⟨trivial, ?_⟩; gi_at_call 46; refine (callsIn_wide.2 (U.out _)).mono ?_; rintro e1 w1 ⟨rfl, rfl⟩) | (refine ⟨trivial, ?_⟩; gi_at_call 47; refine (callsIn_wide.2 (G.out _)).mono ?_; rintro e2 w2 ⟨rfl, q2⟩; have x0' := (BX.out _ q2).1; obtain ⟨fn, tmps, assign, body, hy, hR⟩ := HYk.out _ (qa.trans q2); (try dsimp only at hy)))
              refine hR.mono ?_
              rintro e3 W3 (⟨rfl, hJ3, hk3⟩ | ⟨rfl, hJx3⟩)
              · gi_wp2
                go_roundw
                case rel => exact ⟨k + 1, by omega, by go_num, by rw [← HT2.out, HV.out, lastT_snoc], by rw [← HT2.out, HV.out]; exact hJ3, HK2.out _ (kpB_t ⟨(Below.mono (qa.trans q2) (by omega)), fun j j1 j2 => (qa.trans q2).block j (by omega)⟩ hk3)⟩
                case measure => simp [intOf]; omega
              · gi_wp2
                refine bodyPost_ret (results_none rfl _ _ _) rfl ?_
                exact ⟨⟨_, rfl⟩, .inr ⟨_, HPRE.out, by rw [HV.out]; exact hJx3⟩⟩
            | false =>
              obtain rfl : t = (x, false) := by rw [ht]; simp
              clear q ht
              gi_wp2_with (first | (refine ⟨trivial, ?_⟩; gi_at_call 46; refine (callsIn_wide.2 (U.out _)).mono ?_; rintro e1 w1 ⟨rfl, rfl⟩) | (refine ⟨trivial, ?_⟩; gi_at_call 47; refine (callsIn_wide.2 (G.out _)).mono ?_; rintro e2 w2 ⟨rfl, q2⟩; have x0' := (BX.out _ q2).1; obtain ⟨fn, tmps, assign, body, hy, hR⟩ := HYk.out _ (qa.trans q2); (try dsimp only at hy)))
              refine hR.mono ?_
              rintro e3 W3 (⟨rfl, hJ3, hk3⟩ | ⟨rfl, hJx3⟩)
              · gi_wp2
                go_roundw
                case rel => exact ⟨k + 1, by omega, by go_num, by rw [← HT2.out, HV.out, lastT_snoc], by rw [← HT2.out, HV.out]; exact hJ3, HK2.out _ (kpB_t ⟨(Below.mono (qa.trans q2) (by omega)), fun j j1 j2 => (qa.trans q2).block j (by omega)⟩ hk3)⟩
                case measure => simp [intOf]; omega
              · gi_wp2
                refine bodyPost_ret (results_none rfl _ _ _) rfl ?_
                exact ⟨⟨_, rfl⟩, .inr ⟨_, HPRE.out, by rw [HV.out]; exact hJx3⟩⟩
    · obtain rfl : k = l.length := by omega
      rw [List.take_length] at hJs
      gi_wp2
      go_end0
      exact ⟨⟨_, rfl⟩, .inl ⟨_, rfl, hJs⟩⟩
end Go.Proofs.Ytipipjpdlblifaa
