/-
  The iterator of a record's blocks.
-/
import Derived.RangeFuncNested
import Derived.RangeFuncBound
import Derived.RangeFuncCalls
import Derived.RangeFuncLeaves
import Derived.Shelf.Abstract
import Derived.Shelf.RegionOpen
import Derived.OwnWalkIn
import Derived.TacticsInMore
import Derived.LoopNIn
import Derived.LoopIn
import Derived.Maps.AppendAt
import Derived.Maps.OwnIn
import Derived.Test.YtpcanlafbcdmcaaKPrg2
namespace Go.Proofs.Ytpcanlafbcdmcaa
set_option maxRecDepth 100000
open Go.ChangeShapes Go.WideShapes Go.ChangeAt Go.RowKit Go.Shelf
set_option linter.unusedVariables false
set_option linter.unusedSimpArgs false
set_option maxRecDepth 100000
attribute [local go_sem] Oper.semAt_some

theorem Q.grown {w w' : World} (q : Q w w') : w.grownBy w' none := ⟨q.os, q.tape, q.output, q.size, fun k hk _ => q.block k hk⟩
theorem info_u8 : (Try.prog.info? 5).map (fun i => (i.zero, i.size, i.bytes)) = some (some (.int .u8 0), 1, 1) := by kernel_rfl
/-- The places of a record's blocks. -/
def prsK (K : Nat) : List (Fin K) := List.ofFn fun i => i
theorem prsK_length (K : Nat) : (prsK K).length = K := List.length_ofFn
theorem prsK_succ (K k : Nat) (h : k < K) : (prsK K).take (k + 1) = (prsK K).take k ++ [⟨k, h⟩] := by
  rw [List.take_succ_eq_append_getElem (by rw [prsK_length]; exact h)]
  simp [prsK]
theorem prsK_map {α : Type} (K : Nat) (f : Nat → α) : (prsK K).map (fun i => f i.1) = (List.range K).map f := by
  apply List.ext_getElem
  · simp [prsK]
  · intro i h1 h2
    simp [prsK]
/-- 'make([]byte, 60, 64)', within a round. -/
theorem wpListIn_make64 {F : Fence} {n : Nat} (w : World) {ops : Array Oper} {rest : List Oper} {o : Oper} {a : Act} {Q' : Exit → Act → World → Prop}
    (hg : o.guard = none) (l c : Operand) (hop : o.op = Op.makeSlice 45 l c) (hl : a.eval l = .int .i64 60) (hc : a.eval c = .int .i64 64)
    (hK : ∀ w', Hid (Bx w' w.heap.size 5 (List.replicate 64 (Value.int .u8 0)).toArray) → Hid (Q w w') → Hid (w'.heap.size = w.heap.size + 1) → wpListIn F n Try.prog ops Q' rest (a.put o.dst (.slice (some ⟨w.heap.size, 0, none⟩) 60 64)) w') :
    wpListIn F n Try.prog ops Q' (o :: rest) a w := by
  refine wpListIn_plain hg fun K hK' => ?_
  obtain ⟨i0, hi0, hz0, hz1, hz2⟩ := info_parts info_u8
  have hr := run_make (P := Try.prog) w 45 5 i0 (.int .u8 0) Try.underlying45 hi0 hz0 .i64 .i64 60 64 (by omega) (by omega) (by rw [hz2]; decide) (by omega)
  rw [hz1, show ((64 : Int).toNat * 1) = 64 by rfl] at hr
  have e : madeCells (Value.int .u8 0).cells 64 = (List.replicate 64 (Value.int .u8 0)).toArray := by
    apply Array.ext'
    rw [show (Value.int IntKind.u8 0).cells = #[Value.int IntKind.u8 0] by rfl, toList_madeCells_one]
  rw [e] at hr
  unfold Oper.wpIn
  refine ⟨by simp [Oper.about, hop], ?_⟩
  rw [Oper.semAt_plain F _ _ (by rw [hop]; intro c hc'; cases hc')]
  simp [execOp, hop, hl, hc, hr, Result.andThen]
  exact hK' _ _ (hK _ (Lib.hid (Bx.new _ _ _)) (Lib.hid ((Q.refl w).alloc _)) (Lib.hid (by simp)))
theorem byteCells_append (a b : List UInt8) : Lib.byteCells (a ++ b) = Lib.byteCells a ++ Lib.byteCells b := by simp [Lib.byteCells]
theorem byteCells_zero (n : Nat) : Lib.byteCells (List.replicate n 0) = List.replicate n (Value.int .u8 0) := by simp [Lib.byteCells]
/-- 'copy(block, s)', of sixty octets at the most. -/
theorem run_copy60 (w : World) (ty : TypeId) (g : Nat) (t : ByteArray) (hg : Bx w g 5 (List.replicate 64 (Value.int .u8 0)).toArray) :
    (Builtin.copy_ #[45, 9] ty #[.slice (some ⟨g, 0, none⟩) 60 64, .string t]).run Try.prog w =
      .ok (goInt (min t.size 60)) (w.setRow g (Lib.byteCells (padK (bl t) ++ List.replicate 4 0)).toArray) := by
  have hlen : (Lib.byteCells ((bl t).take 60)).length = min t.size 60 := by rw [Lib.byteCells_length, List.length_take, bl_length, Nat.min_comm]
  have hst := run_storeCells_at Try.prog g 0 5 (Lib.byteCells ((bl t).take 60)) 0 _ w hg (by rw [hlen]; simp; omega) (Lib.byteCells_one _)
  have htk : List.take (Nat.min t.size 60) (List.map (fun b : UInt8 => Value.int IntKind.u8 (b.toNat : Int)) t.data.toList) = Lib.byteCells ((bl t).take 60) := by
    rw [← List.map_take]
    show Lib.byteCells ((bl t).take (min t.size 60)) = _
    by_cases h : t.size ≤ 60
    · rw [Nat.min_eq_left h, List.take_of_length_le (by rw [bl_length]; exact Nat.le_refl _), List.take_of_length_le (by rw [bl_length]; exact h)]
    · rw [Nat.min_eq_right (by omega)]
  have e : (List.take 0 (List.replicate 64 (Value.int .u8 0)) ++ Lib.byteCells ((bl t).take 60) ++ List.drop (0 + 0 + (Lib.byteCells ((bl t).take 60)).length) (List.replicate 64 (Value.int .u8 0))) = Lib.byteCells (padK (bl t) ++ List.replicate 4 0) := by
    rw [padK, byteCells_append, byteCells_append, byteCells_zero, byteCells_zero, hlen, List.take_zero, List.nil_append, List.drop_replicate, List.append_assoc, List.replicate_append_replicate, bl_length]
    congr 2; omega
  rw [hlen] at hst e
  simp only [Nat.add_zero, Nat.zero_add] at hst e
  cases hq : Try.prog.info? 5 with
  | none => have := info_u8; simp [hq] at this
  | some i =>
    have hi : i.size = 1 := by have := info_u8; simp [hq] at this; exact this.2.1
    simp [Builtin.copy_, run_underlying Try.underlying45, Builtin.lenOf, Builtin.firstCells, sizeOf, typeInfo, hq, hi]
    rw [htk, hst, e]
    simp only [Result.andThen]
    rw [show ((t.size.min 60 : Nat) : Int) = min (t.size : Int) 60 by show ((min t.size 60 : Nat) : Int) = _; omega]
    rfl
theorem wpListIn_copy60 {F : Fence} {n : Nat} (w : World) {ops : Array Oper} {rest : List Oper} {o : Oper} {a : Act} {Q' : Exit → Act → World → Prop} (hgd : o.guard = none) (d s : Operand)
    (ho : o.op = .call { callee := .builtin .copy, args := #[d, s], argTypes := #[45, 9] }) (g : Nat) (t : ByteArray) (hd : a.eval d = .slice (some ⟨g, 0, none⟩) 60 64) (hs : a.eval s = .string t)
    (hg : Hid (Bx w g 5 (List.replicate 64 (Value.int .u8 0)).toArray))
    (h : ∀ w', Hid (Bx w' g 5 (Lib.byteCells (padK (bl t) ++ List.replicate 4 0)).toArray) → Hid (Kp g w w') → wpListIn F n Try.prog ops Q' rest (a.put o.dst (goInt (min t.size 60))) w') :
    wpListIn F n Try.prog ops Q' (o :: rest) a w := by
  refine wpListIn_plain hgd fun K hK => ?_
  have hr := run_copy60 w o.type g t hg.out
  unfold Oper.wpIn
  refine ⟨by simp [Oper.about, ho, resolve, Target.leads, Sem.run_pure], ?_⟩
  rw [Oper.semAt_plain F _ _ (by rw [ho]; intro c hc'; cases hc')]
  simp [execOp, ho, resolve, invoke, builtin, hd, hs, hr, Result.andThen]
  have := h _ (Lib.hid (setRow_heap w g _ _ _ _ hg.out)) (Lib.hid ⟨rfl, rfl, rfl, by simp, fun k _ hk => setRow_other w g k _ (fun e => hk (by rw [e]))⟩)
  exact hK _ _ (by simpa using this)
/-- Sixty octets and room for four are a row of one's own. -/
theorem own60 {w : World} {base g : Nat} {l : List UInt8} (hl : l.length = 60) (hb : base ≤ g) (h : Bx w g 5 (Lib.byteCells (l ++ List.replicate 4 0)).toArray) :
    w.ownsRow base 5 1 (.slice (some ⟨g, 0, none⟩) 60 64) 60 (Lib.byteCells l) := by
  refine ⟨by rw [Lib.byteCells_length, hl], .inr ⟨g, 64, _, rfl, hb, h, by omega, by unfold maxLen; omega, ?_, ?_⟩⟩
  · rw [List.size_toArray, Lib.byteCells_length, List.length_append, hl, List.length_replicate]
  · show List.take (60 * 1) (Lib.byteCells _) = _
    rw [byteCells_append, List.take_append_of_le_length (by rw [Lib.byteCells_length, hl]; omega), List.take_of_length_le (by rw [Lib.byteCells_length, hl]; omega)]
theorem conv_own {base : Nat} {w : World} {l : List UInt8} {v : Value} {n : Nat} (h : w.ownsRow base 5 1 v n (Lib.byteCells l)) (h0 : 0 < l.length) :
    (convert 45 9 v).run Try.prog w = .ok (.string (mk l)) w := by
  have hn : n = l.length := by have := h.1; rw [Lib.byteCells_length] at this; omega
  subst hn
  rcases h.2 with ⟨rfl, h1⟩ | ⟨g, cap, cur, rfl, -⟩
  · omega
  · exact run_convert_bytes_back (P := Try.prog) w 45 9 5 ⟨g, 0, none⟩ cap l Try.underlying45 Try.underlying5 Try.underlying9 (fun j hj => World.ownsRow.cells (g := g) h rfl j _ (by simp [Lib.byteCells, hj]))
theorem foot_cells (p f : Nat) (hf : f < 65536) : Lib.byteCells (footK p f) = [.int .u8 (f % 256 : Nat), .int .u8 (f / 256 % 256 : Nat), .int .u8 (if p = 0 then 1 else 2 : Nat), .int .u8 (165 : Nat)] := by
  rw [footK, Lib.byteCells, List.map_cons, List.map_cons, List.map_cons, List.map_cons, List.map_nil, toU8, toU8]
  split <;> rfl
/-- The iterator's value. -/
abbrev itB (f B : Nat) : Value := .func (.func f) #[] #[.pointer (some ⟨B, 0, none⟩)]

set_option maxHeartbeats 4000000 in
theorem blocks1_in (n : Nat) (hn : 1 ≤ n) (lp B : Nat) (s : ByteArray) (hs : s.size ≤ 12000) (K : Nat) (hK : K = manyK s.size) (J Jx : List (Fin K) → World → Prop)
    (hY : ∀ pre (x : Fin K) W, J pre W → pre.length < K → YieldAt Fence.wide (n - 1) Try.prog lp #[.int .i64 x.1, .string (mk (blkK (bl s) x.1))] W fun e W' =>
      (e = .returned (.bool true) ∧ J (pre ++ [x]) W' ∧ True) ∨ (e = .returned (.bool false) ∧ Jx (pre ++ [x]) W'))
    (W : World) (hJ : AbidesFrom W.heap.size J) (hb : W.cell? ⟨B, 0, none⟩ = some (.string s)) (hB : B < W.heap.size) (h0 : J [] W) :
    CallsIn Fence.wide n Try.prog 28 #[.func (.yield lp) #[] #[], .pointer (some ⟨B, 0, none⟩)] W fun e W' => (∃ v, e = .returned v) ∧
      ((∃ ys, ys = prsK K ∧ J ys W') ∨ (∃ pre, pre <+: prsK K ∧ Jx pre W')) := by
  have hpos := manyK_pos hs
  have hmany := manyK_le s.size
  have hroom := manyK_room hs
  have hlow := manyK_low hs
  have HY := Lib.hid hY
  have HJ := Lib.hid hJ
  have HP := Lib.hid (prsK_length K)
  have HPS := Lib.hid (fun k h => prsK_succ K k h)
  clear hY hJ
  have M := Lib.hid (fun w => many_any (s.size : Int) w (by omega))
  rw [manyI_nat] at M
  rw [← hK] at M hpos hmany hroom hlow
  have HK := Lib.hid hK
  -- the record with its size ahead
  have hcells : Hid ((Lib.byteCells [(s.size % 256).toUInt8, (s.size / 256 % 256).toUInt8]).toArray = #[.int .u8 ((s.size : Int) % 256), .int .u8 ((s.size : Int) / 256)]) := Lib.hid (by
    rw [Lib.byteCells, List.map_cons, List.map_cons, List.map_nil, toU8, toU8, int_mod, int_div _ (by omega)])
  have hcv := conv_bx (l := [(s.size % 256).toUInt8, (s.size / 256 % 256).toUInt8]) (n := 2) (g := W.heap.size) (Bx.new W 5 _) rfl
  rw [hcells.out] at hcv
  have qa := (Q.refl W).alloc (.cells #[.int .u8 ((s.size : Int) % 256), .int .u8 ((s.size : Int) / 256)] 5)
  have hb2 : (W.alloc (.cells #[.int .u8 ((s.size : Int) % 256), .int .u8 ((s.size : Int) / 256)] 5)).cell? ⟨B, 0, none⟩ = some (.string s) := (qa.cell (p := ⟨B, 0, none⟩) hB).trans hb
  obtain ⟨HD, hHD⟩ : ∃ HD, HD = mk [(s.size % 256).toUInt8, (s.size / 256 % 256).toUInt8] := ⟨_, rfl⟩
  rw [← hHD] at hcv
  obtain ⟨T, hT⟩ : ∃ T, T = mk (heldK (bl s)) := ⟨_, rfl⟩
  have hcat : HD ++ s = T := by rw [hHD, hT]; apply bl_inj; rw [bl_append, bl_mk, bl_mk, heldK, bl_length]; rfl
  have hTs : T.size = s.size + 2 := by rw [hT, mk_size, heldK_length, bl_length]
  have HT := Lib.hid hT
  have QA := Lib.hid qa
  have hHs : HD.size = 2 := by rw [hHD]; rfl
  clear hcells hHD hT hK qa
  refine callsIn_of_wp Try.func28 rfl trivial ?_ rfl
  simp only [Try.ntmps28, List.size_toArray, List.length_cons, List.length_nil, Nat.reduceAdd, Nat.reduceSub, Array.replicate_succ, Array.replicate_zero, List.push_toArray, List.append_toArray, List.nil_append, List.cons_append]
  gi_wp2_with (refine ⟨trivial, ?_⟩; gi_at_call 12; refine (callsIn_wide.2 (M.out _)).mono ?_; rintro e1 w1 ⟨rfl, rfl⟩)
  have HT2 := Lib.hid hTs
  clear hb hb2 hcv hcat hHs hTs
  gi_loopw [23] (fun I wr => ∃ k : Nat, k ≤ K ∧ I = .int .i64 k ∧ J ((prsK K).take k) wr) (fun I _ => K - (intOf I).toNat)
  case atStart => exact ⟨0, Nat.zero_le _, rfl, HJ.out [] W _ none h0 QA.out.grown (fun r e => by cases e)⟩
  case round =>
    obtain ⟨k, hk, rfl, hJs⟩ := hrel
    by_cases hlt : k < K
    · have hkt : (k : Int) < (K : Int) := by omega
      obtain ⟨d, hd⟩ : ∃ d, d = K - k := ⟨_, rfl⟩
      obtain ⟨f, hf⟩ : ∃ f, f = K - 1 - k := ⟨_, rfl⟩
      obtain ⟨m, hm⟩ : ∃ m, m = 60 * k := ⟨_, rfl⟩
      have e1 : (K : Int) - (k : Int) = (d : Int) := by omega
      have e2 : (d : Int) - 1 = (f : Int) := by omega
      have e3 : (k : Int) * 60 = (m : Int) := by omega
      have hmT : m ≤ T.size := by have := HT2.out; omega
      have hmT' : (m : Int) ≤ (T.size : Int) := by omega
      have hdd : d ≤ 201 := by omega
      have E := Lib.hid (fun w => endAt_any k f w (by omega) (by omega))
      have HB : Hid (padK (bl (T.extract m T.size)) ++ footK k f = blkK (bl s) k) := Lib.hid (by
        rw [blkK, bl_length, ← HK.out, ← hf, HT.out, bl_extract, bl_mk, hm, List.take_of_length_le (by rw [List.length_drop, mk_size]; exact Nat.le_refl _)])
      have HF := Lib.hid (foot_cells k f (by omega))
      rw [endP, endV] at E
      obtain ⟨a, ha⟩ : ∃ a, a = f % 256 := ⟨_, rfl⟩
      obtain ⟨b, hb⟩ : ∃ b, b = f / 256 % 256 := ⟨_, rfl⟩
      obtain ⟨c, hc⟩ : ∃ c : Nat, c = (if k = 0 then 1 else 2) := ⟨_, rfl⟩
      obtain ⟨z, hz⟩ : ∃ z : Nat, z = 165 := ⟨_, rfl⟩
      rw [← ha, ← hb, ← hc, ← hz] at HF E
      have S := HPS.out k hlt
      have hlen : ((prsK K).take k).length < K := by rw [List.length_take, HP.out]; omega
      obtain ⟨L, hL⟩ : ∃ L, L = (prsK K).take k := ⟨_, rfl⟩
      rw [← hL] at S hJs hlen
      have HS := Lib.hid S
      have HL := Lib.hid hL
      have HM := Lib.hid hm
      clear hL S ha hb hc hz hf hd hm
      gi_wp2_with (first | (refine ⟨trivial, ?_⟩; gi_at_call 29; refine (callsIn_wide.2 (E.out _)).mono ?_; rintro e1 w1 ⟨rfl, q1⟩) | (gi_at_make; refine wpListIn_make64 _ rfl _ _ rfl rfl rfl ?_; intro w3 hB3 hQ3 hS3; refine Hid.out ?_))
      refine Lib.hid ?_
      obtain ⟨p, hp⟩ : ∃ p, p = w1.heap.size := ⟨_, rfl⟩
      have bx1 := Bx.new w1 55 #[.int .u8 (a : Nat), .int .u8 (b : Nat), .int .u8 (c : Nat), .int .u8 (z : Nat)]
      have q2 := q1.alloc (.cells #[.int .u8 (a : Nat), .int .u8 (b : Nat), .int .u8 (c : Nat), .int .u8 (z : Nat)] 55)
      simp only [World.size_alloc] at hB3 hS3 ⊢
      rw [← hp] at bx1 hB3 hS3 ⊢
      have BX1 := Lib.hid (bx1.on hQ3.out)
      have Q3 := Lib.hid (q2.trans hQ3.out)
      have hpw : wr.heap.size ≤ p := by rw [hp]; exact q1.size
      have HP2 := Lib.hid hpw
      clear bx1 q1 q2 hp hQ3 hpw
      obtain ⟨g, hg⟩ : ∃ g, g = p + 1 := ⟨_, rfl⟩
      rw [← hg] at hB3 ⊢
      have HG := Lib.hid hg
      have HB3 := hB3
      clear hg hS3
      gi_wp2_with (with_reducible refine wpListIn_copy60 _ rfl (.tmp 33) (.tmp 37) rfl g (T.extract m T.size) rfl rfl hB3 ?_; intro w4 hB4 hK4; refine Hid.out ?_)
      refine Lib.hid ?_
      have O4 := own60 (base := g) (padK_length _) (Nat.le_refl _) hB4.out
      have BX4 := hK4.out.bx BX1.out (by rw [HG.out]; omega)
      have Q4 := Lib.hid (Kp.q Q3.out hK4.out (by have := HP2.out; rw [HG.out]; omega))
      have hnews : ∀ j u, (Lib.byteCells (footK k f))[j]? = some u → w4.cell? ((⟨p, 0, none⟩ : Addr).add j) = some u := fun j u hu => by
        rw [add_flat, BX4.cell, ← hu, HF.out]; simp
      have hgs : g ≤ w4.heap.size := by have := lt_of_block hB4.out; omega
      obtain ⟨i0, hi0, hz0, hz1, hz2⟩ := info_parts info_u8
      have HN := Lib.hid hnews
      have HO4 := Lib.hid O4
      clear hB4 hK4 BX1 Q3 HB3 hB3 BX4 O4 hnews
      gi_wp2_with (gi_at_builtin; refine wpListIn_append_own_at _ rfl _ _ 45 rfl g 5 i0 (.int .u8 0) 1 1 Try.underlying45 hi0 hz0 hz1 hz2 rfl (by decide) _ 60 _ rfl HO4.out ⟨p, 0, none⟩ 4 4 (Lib.byteCells (footK k f)) rfl (by rw [Lib.byteCells_length, footK_length]) HN.out (Lib.byteCells_one _) (by unfold maxLen; omega) (by omega) hgs ?_; intro v5 w5 hO5 hG5 _ hat5; refine Hid.out ?_)
      refine Lib.hid ?_
      rw [← byteCells_append, HB.out] at hO5
      have hcv := conv_own hO5 (by rw [blkK_length]; omega)
      have Q5 := Lib.hid (Kp.q (p := g) Q4.out hG5 (by have := HP2.out; have := HG.out; omega))
      have HYk := HY.out L ⟨k, hlt⟩ w5 (HJ.out L wr w5 none hJs Q5.out.grown (fun r e => by cases e)) hlen
      dsimp only at HYk
      obtain ⟨X, hX⟩ : ∃ X, X = mk (blkK (bl s) k) := ⟨_, rfl⟩
      rw [← hX] at hcv HYk
      obtain ⟨fn, tmps, assign, body, hy, hR⟩ := HYk
      have HRR := Lib.hid hR
      clear hR hO5 hG5 hat5 HO4 HN Q4 HF HB hJs hX
      gi_wp2
      refine HRR.out.mono ?_
      rintro e3 W3 (⟨rfl, hJ3, -⟩ | ⟨rfl, hJx3⟩)
      · gi_wp2
        go_roundw
        case rel => exact ⟨k + 1, by omega, by go_num, by rw [HS.out]; exact hJ3⟩
        case measure => simp [intOf]; omega
      · gi_wp2
        refine bodyPost_ret (results_none rfl _ _ _) rfl ?_
        exact ⟨⟨_, rfl⟩, .inr ⟨_, by rw [← HS.out]; exact List.take_prefix _ _, hJx3⟩⟩
    · obtain rfl : k = K := by omega
      gi_wp2
      go_end0
      exact ⟨⟨_, rfl⟩, .inl ⟨_, rfl, by rw [← List.take_length (l := prsK k), HP.out]; exact hJs⟩⟩
end Go.Proofs.Ytpcanlafbcdmcaa
