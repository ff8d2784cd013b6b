/-
  Rows of zones and of texts as whole blocks: made, copied, read, written. Contracts of the program's apart, refuse and burn. Contract of the program's allApart. Contracts of the program's New, Fuel and Read.
-/
import Derived.Test.YteoondmakdghhaaRb
import Derived.Laws.CopyOwn
import Derived.Laws.ResultCell
namespace Go.Proofs.Yteoondmakdghhaa
set_option maxRecDepth 100000
open Go.ChangeShapes Go.WideShapes Go.ChangeAt Go.RowKit
set_option linter.unusedVariables false
set_option linter.unusedSimpArgs false
set_option maxRecDepth 100000
/-- 'make([]T, n)': a whole block. -/
theorem wpList_make_bx (w : World) {ops : Array Oper} {rest : List Oper} {o : Oper} {a : Act} {Q' : Exit → Act → World → Prop}
    (hg : o.guard = none) (l c : Operand) (t : TypeId) (hop : o.op = Op.makeSlice t l c)
    (e : TypeId) (z : Value) (size bytes : Nat) (h1 : Try.prog.underlying t = some (.slice e)) (h2 : (Try.prog.info? e).map (fun i => (i.zero, i.size, i.bytes)) = some (some z, size, bytes))
    (kl kc : IntKind) (L C : Int) (n : Nat) (hl : a.eval l = .int kl L) (hc : a.eval c = .int kc C) (hL : L = (n : Int)) (hC : C = (n : Int)) (b2 : bytes * n ≤ 281474976710656) (b3 : n ≤ maxLen)
    (hK : ∀ w', Hid (Bx w' w.heap.size e (madeCells z.cells (n * size))) → Hid (Q w w') → Hid (w'.heap.size = w.heap.size + 1) → wpList Try.prog ops Q' rest (a.put o.dst (.slice (some ⟨w.heap.size, 0, none⟩) n n)) w') :
    wpList Try.prog ops Q' (o :: rest) a w := by
  refine wpList_plain hg fun K hK' => ?_
  obtain ⟨i0, hi0, hz0, hz1, hz2⟩ := info_parts h2
  have hb : (i0.bytes : Int) * (n : Int) ≤ 281474976710656 := by
    have : ((bytes * n : Nat) : Int) ≤ 281474976710656 := by omega
    rw [hz2]; rwa [Int.natCast_mul] at this
  have hr := run_make (P := Try.prog) w t e i0 z h1 hi0 hz0 kl kc n n (by omega) (Int.le_refl _) hb (by unfold maxLen at b3; omega)
  simp only [Int.toNat_natCast, hz1] at hr
  subst hL hC
  unfold Oper.wp
  simp [execOp, hop, hl, hc, hr, Result.andThen]
  exact hK' _ _ (hK _ (Lib.hid (Bx.new _ _ _)) (Lib.hid ((Q.refl w).alloc _)) (Lib.hid (by simp)))
theorem run_copyN (w : World) (dT sT ty elem : TypeId) (g dCap : Nat) (A : Option Addr) (n sCap : Nat) (cur : Array Value) (t : TypeId) (cs : List Value) (s : Nat)
    (hu : Try.prog.underlying dT = some (.slice elem)) (hs : (Try.prog.info? elem).map (·.size) = some s)
    (hg : w.heap[g]? = some (.cells cur t (0, 0))) (hn : cs.length = n * s) (h0 : n = 0 → True)
    (hsrc : 0 < n → ∃ ad, A = some ad ∧ ∀ j v, cs[j]? = some v → w.cell? (ad.add j) = some v) (hfit : cs.length = cur.size) (h1 : ∀ v ∈ cs, v.oneCell' = true) :
    (Builtin.copy_ #[dT, sT] ty #[.slice (some ⟨g, 0, none⟩) n dCap, .slice A n sCap]).run Try.prog w = .ok (goInt n) (w.setRow g cs.toArray) := by
  have hst := run_storeCells_at Try.prog g 0 t cs 0 cur w hg (by omega) h1
  have hself : w.setRow g cur = w := setRow_self w g cur t (0, 0) hg
  cases hq : Try.prog.info? elem with
  | none => simp [hq] at hs
  | some i =>
    have hi : i.size = s := by simpa [hq] using hs
    by_cases hpos : 0 < n
    · obtain ⟨ad, rfl, hs2⟩ := hsrc hpos
      have hl := run_loadCells_list (P := Try.prog) w ad cs hs2
      have e : (List.take 0 cur.toList ++ cs ++ List.drop (0 + 0 + cs.length) cur.toList).toArray = cs.toArray := by
        rw [List.take_zero, List.nil_append, List.drop_eq_nil_of_le (by simp; omega), List.append_nil]
      simp only [Nat.add_zero] at hst e
      rw [e] at hst
      simp [Builtin.copy_, run_underlying hu, Builtin.lenOf, Builtin.firstCells, sizeOf, typeInfo, hq, hi, ← hn, hl, hst]
    · obtain rfl : n = 0 := by omega
      obtain rfl : cs = [] := List.eq_nil_of_length_eq_zero (by simpa using hn)
      have hc : cur = #[] := Array.eq_empty_of_size_eq_zero (by simpa using hfit.symm)
      subst hc
      have hl : ∀ (x : Addr), (loadCells x 0).run Try.prog w = .ok #[] w := fun x => by simpa using run_loadCells_list (P := Try.prog) w x [] (by simp)
      cases A <;> simp [Builtin.copy_, run_underlying hu, Builtin.lenOf, Builtin.firstCells, sizeOf, typeInfo, hq, hi, storeCells, hl, hself]
theorem wpList_copy_bx {w : World} {ops : Array Oper} {rest : List Oper} {o : Oper} {a : Act} {Q' : Exit → Act → World → Prop} (hgd : o.guard = none) (d s : Operand) (dT sT : TypeId)
    (ho : o.op = .call { callee := .builtin .copy, args := #[d, s], argTypes := #[dT, sT] }) (elem : TypeId) (sz : Nat) (hu : Try.prog.underlying dT = some (.slice elem)) (hsz : (Try.prog.info? elem).map (·.size) = some sz)
    (A : Option Addr) (n dCap sCap g : Nat) (hd : a.eval d = .slice (some ⟨g, 0, none⟩) n dCap) (hs : a.eval s = .slice A n sCap)
    (cur : Array Value) (t : TypeId) (hg : Hid (Bx w g t cur)) (cs : List Value) (hn : cs.length = n * sz)
    (hsrc : 0 < n → ∃ ad, A = some ad ∧ ∀ j v, cs[j]? = some v → w.cell? (ad.add j) = some v) (hfit : cs.length = cur.size) (h1 : ∀ v ∈ cs, v.oneCell' = true)
    (h : ∀ w', Hid (Bx w' g t cs.toArray) → Hid (Kp g w w') → wpList Try.prog ops Q' rest (a.put o.dst (goInt n)) w') :
    wpList Try.prog ops Q' (o :: rest) a w := by
  refine wpList_plain hgd fun K hK => ?_
  have hrun := run_copyN w dT sT o.type elem g dCap A n sCap cur t cs sz hu hsz hg.out hn (fun _ => trivial) hsrc hfit h1
  unfold Oper.wp
  simp [execOp, ho, resolve, invoke, builtin, hd, hs, hrun, Result.andThen]
  exact hK _ _ (h _ (Lib.hid (setRow_heap w g _ _ t _ hg.out)) (Lib.hid ⟨rfl, rfl, rfl, by simp, fun k _ hk => setRow_other w g k _ (fun e => hk (by rw [e]))⟩))
theorem add_flat (R n : Nat) : (⟨R, 0, none⟩ : Addr).add n = ⟨R, n, none⟩ := by
  unfold Addr.add
  split
  · rename_i h0; simp [h0]
  · simp
/-- A row of zones, as a whole block. -/
def ZB (w : World) (R : Nat) (P : List (Zn × Value)) : Prop := Bx w R 45 (P.flatMap zcl).toArray
theorem ZB.cell {w : World} {R : Nat} {P : List (Zn × Value)} (h : ZB w R P) (k : Nat) (hk : k < P.length) {j : Nat} (hj : j < 3) : w.cell? ⟨R, k * 3 + j, none⟩ = (zcl P[k])[j]? := by
  rw [Bx.cell h]
  have := flat_atZ P k hk hj
  simpa using this
/-- One zone of a row, as the walk spells it. -/
theorem ZB.at {w : World} {R : Nat} {P : List (Zn × Value)} (h : ZB w R P) {a : Addr} (ha : a = ⟨R, 0, none⟩) (k : Nat) (hk : k < P.length) :
    w.cell? (a.add (k * 3)) = some P[k].2 ∧ w.cell? ⟨(a.add (k * 3)).block, (a.add (k * 3)).off + 1, none⟩ = some (.int .i64 P[k].1.firm) ∧ w.cell? ⟨(a.add (k * 3)).block, (a.add (k * 3)).off + 2, none⟩ = some (.bool P[k].1.full)
    ∧ w.frozen? (a.add (k * 3)) = false ∧ w.frozen? ⟨(a.add (k * 3)).block, (a.add (k * 3)).off + 1, none⟩ = false ∧ w.frozen? ⟨(a.add (k * 3)).block, (a.add (k * 3)).off + 2, none⟩ = false := by
  subst ha
  simp only [add_flat]
  exact ⟨h.cell k hk (j := 0) (by omega), h.cell k hk (j := 1) (by omega), h.cell k hk (j := 2) (by omega), Bx.frozen h _, Bx.frozen h _, Bx.frozen h _⟩
theorem zset (P : List (Zn × Value)) (k : Nat) (h : k < P.length) (p : Zn × Value) : (P.set k p).flatMap zcl = (((P.flatMap zcl).set (k * 3) p.2).set (k * 3 + 1) (.int .i64 p.1.firm)).set (k * 3 + 2) (.bool p.1.full) := by
  induction P generalizing k with
  | nil => simp at h
  | cons x r ih =>
    have hl : (zcl x).length = 3 := rfl
    cases k with
    | zero => simp [zcl]
    | succ k =>
      have hk : k < r.length := by simpa using h
      rw [List.set_cons_succ, List.flatMap_cons, List.flatMap_cons, ih k hk, List.set_append_right _ _ (by rw [hl]; omega), List.set_append_right _ _ (by rw [hl]; omega), List.set_append_right _ _ (by rw [hl]; omega)]
      rw [show (k + 1) * 3 - (zcl x).length = k * 3 by rw [hl]; omega, show (k + 1) * 3 + 1 - (zcl x).length = k * 3 + 1 by rw [hl]; omega, show (k + 1) * 3 + 2 - (zcl x).length = k * 3 + 2 by rw [hl]; omega]
theorem set_self {α : Type} (l : List α) (i : Nat) (x : α) (h : l[i]? = some x) : l.set i x = l := by
  obtain ⟨hi, rfl⟩ := List.getElem?_eq_some_iff.1 h
  exact List.set_getElem_self hi
theorem ZB.put {w : World} {R : Nat} {P : List (Zn × Value)} (h : ZB w R P) {a : Addr} (ha : a = ⟨R, 0, none⟩) (k : Nat) (hk : k < P.length) (u : Value) : ZB (w.setCell (a.add (k * 3)) u) R (P.set k (P[k].1, u)) := by
  subst ha
  rw [add_flat]
  have := Bx.set h (k * 3) u
  unfold ZB
  rw [zset P k hk, set_self _ (k * 3 + 1) _ (by rw [List.getElem?_set_ne (by omega)]; exact flat_atZ P k hk (j := 1) (by omega)), set_self _ (k * 3 + 2) _ (by rw [List.getElem?_set_ne (by omega)]; exact flat_atZ P k hk (j := 2) (by omega))]
  simpa using this
theorem ZB.put1 {w : World} {R : Nat} {P : List (Zn × Value)} (h : ZB w R P) {a : Addr} (ha : a = ⟨R, 0, none⟩) (k : Nat) (hk : k < P.length) (n : Int) : ZB (w.setCell ⟨(a.add (k * 3)).block, (a.add (k * 3)).off + 1, none⟩ (.int .i64 n)) R (P.set k ({ P[k].1 with firm := n }, P[k].2)) := by
  subst ha
  rw [add_flat]
  have := Bx.set h (k * 3 + 1) (.int .i64 n)
  unfold ZB
  rw [zset P k hk, set_self _ (k * 3) _ (flat_atZ P k hk (j := 0) (by omega)), set_self _ (k * 3 + 2) _ (by rw [List.getElem?_set_ne (by omega)]; exact flat_atZ P k hk (j := 2) (by omega))]
  simpa using this
theorem ZB.put2 {w : World} {R : Nat} {P : List (Zn × Value)} (h : ZB w R P) {a : Addr} (ha : a = ⟨R, 0, none⟩) (k : Nat) (hk : k < P.length) (b : Bool) : ZB (w.setCell ⟨(a.add (k * 3)).block, (a.add (k * 3)).off + 2, none⟩ (.bool b)) R (P.set k ({ P[k].1 with full := b }, P[k].2)) := by
  subst ha
  rw [add_flat]
  have := Bx.set h (k * 3 + 2) (.bool b)
  unfold ZB
  rw [zset P k hk, set_self _ (k * 3) _ (flat_atZ P k hk (j := 0) (by omega)), set_self _ (k * 3 + 1) _ (flat_atZ P k hk (j := 1) (by omega))]
  simpa using this
/-- A row of zones, as a slice that is read. -/
theorem ZB.zns {w : World} {R : Nat} {P : List (Zn × Value)} (h : ZB w R P) {a : Addr} (ha : a = ⟨R, 0, none⟩) (hp : ∀ p ∈ P, okZ p.1 ∧ Blks w w.heap.size p.2 p.1.b) {n : Nat} (hn : n = P.length) : Zns w w.heap.size (.slice (some a) n n) (P.map (·.1)) := by
  subst hn
  refine ⟨some a, P.length, by rw [List.length_map], by rw [List.length_map]; exact Nat.le_refl _, by simp, fun x hx => ?_, fun k hk => ⟨a, rfl, by subst ha; exact Bx.lt h, ?_⟩⟩
  · obtain ⟨p, hp', rfl⟩ := List.mem_map.1 hx
    exact (hp p hp').1
  · have hk' : k < P.length := by rw [List.length_map] at hk; exact hk
    obtain ⟨h0, h1, h2, -⟩ := h.at ha k hk'
    rw [List.getElem_map]
    exact ⟨h1, h2, P[k].2, h0, (hp _ (List.getElem_mem hk')).2⟩
/-- A row of texts, as a whole block. -/
def TB (w : World) (v : Value) (l : List ByteArray) (g : Nat) : Prop := v = .slice (some ⟨g, 0, none⟩) l.length l.length ∧ Bx w g 9 (l.map Value.string).toArray
theorem TB.blks {w : World} {v : Value} {l : List ByteArray} {g : Nat} (h : TB w v l g) : Blks w (g + 1) v l := by
  obtain ⟨rfl, h⟩ := h
  refine ⟨_, _, rfl, Nat.le_refl _, by simp, fun k hk => ⟨⟨g, 0, none⟩, rfl, by simp, ?_⟩⟩
  rw [add_flat, h.cell]
  simp [hk]
theorem TB.on {w w' : World} {v : Value} {l : List ByteArray} {g : Nat} (h : TB w v l g) (q : Q w w') : TB w' v l g := ⟨h.1, h.2.on q⟩
end Go.Proofs.Yteoondmakdghhaa

namespace Go.Proofs.Yteoondmakdghhaa
set_option maxRecDepth 100000
open Go.ChangeShapes Go.WideShapes Go.ChangeAt Go.RowKit
set_option linter.unusedVariables false
set_option linter.unusedSimpArgs false
set_option maxRecDepth 100000
set_option maxHeartbeats 4000000 in
theorem apartZ_any (l : List ByteArray) (v : Value) (w : World) (hl : l.length ≤ 100000) (ht : Blks w w.heap.size v l) :
    Calls Try.prog 26 #[v] w fun e w' => ∃ v' g, e = .returned v' ∧ TB w' v' l g ∧ w.heap.size ≤ g ∧ g < w'.heap.size ∧ Q w w' := by
  obtain ⟨A, c, e, ec, ez, f⟩ := ht
  subst e
  have HF := Lib.hid f
  obtain ⟨n, hn⟩ : ∃ n, n = l.length := ⟨_, rfl⟩
  have HN := Lib.hid hn
  rw [← hn] at hl ⊢
  clear f ec ez hn
  go_enter Try.func26, Try.ntmps26
  go_wp2_with (at_make; refine wpList_make_bx _ rfl _ _ 31 rfl 9 (.string ⟨#[]⟩) 1 16 Try.underlying31 info_str .i64 .i64 _ _ n rfl rfl rfl rfl (by omega) (by unfold maxLen; omega) ?_; intro w4 hB hQ hS; refine Hid.out ?_)
  refine Lib.hid ?_
  have hsrc : Hid (0 < n → ∃ ad, A = some ad ∧ ∀ j v, (l.map Value.string)[j]? = some v → w4.cell? (ad.add j) = some v) := Lib.hid (fun h0 => by
    have HL := HN.out
    obtain ⟨a0, e0, -, -⟩ := HF.out 0 (by omega)
    subst e0
    refine ⟨a0, rfl, fun j v hj => ?_⟩
    obtain ⟨hj1, hj2⟩ := List.getElem?_eq_some_iff.1 hj
    rw [List.getElem_map] at hj2
    subst hj2
    have hj3 : j < l.length := by simpa using hj1
    obtain ⟨a1, e1, e2, e3⟩ := HF.out j hj3
    injection e1 with e1
    subst e1
    exact (hQ.out.cell (by rw [add_block]; exact e2)).trans e3)
  obtain ⟨cs, hcs⟩ : ∃ cs, cs = l.map Value.string := ⟨_, rfl⟩
  rw [← hcs] at hsrc
  have hlen : cs.length = n * 1 := by rw [hcs, List.length_map, ← HN.out]; omega
  have hone : Hid (∀ v ∈ cs, v.oneCell' = true) := Lib.hid (by rw [hcs]; intro u hu; obtain ⟨s, -, rfl⟩ := List.mem_map.1 hu; rfl)
  have HC := Lib.hid hcs
  clear hcs
  obtain ⟨g, hg⟩ : ∃ g, g = w.heap.size := ⟨_, rfl⟩
  rw [← hg] at hB ⊢
  have HG := Lib.hid hg
  clear hg
  go_wp2_with (with_reducible refine wpList_copy_bx rfl (.tmp 7) (.tmp 8) 31 31 rfl 9 1 Try.underlying31 (by kernel_rfl) A n _ _ g rfl rfl _ _ hB cs hlen hsrc.out (by rw [size_madeCells]; exact hlen) hone.out ?_; intro w5 hB5 hK5; refine Hid.out ?_)
  refine Lib.hid ?_
  go_wp2
  go_ret
  refine ⟨_, g, rfl, ⟨by rw [HN.out]; rfl, by rw [← HC.out]; exact hB5.out⟩, by rw [HG.out]; exact Nat.le_refl _, Bx.lt hB5.out, ?_⟩
  exact Kp.q hQ.out hK5.out (by rw [HG.out]; exact Nat.le_refl _)
/-- Numbers of a device as an int can be. -/
def okN (d : Dv) : Prop := okI64 d.fuel ∧ okI64 d.bad
set_option maxHeartbeats 8000000 in
theorem refuseZ_any (d : Dv) (A : Option Addr) (n c : Nat) (k : Int) (w : World) (hb : okN d) : Calls Try.prog 46 #[dvV d (.slice A n c), .int .i64 k] w fun e w' => e = .returned (.tuple #[dvV (refD d) (.slice A n c), .int .i64 k]) ∧ Q w w' := by
  obtain ⟨zs, size, mo, fuel, off, bad⟩ := d
  rw [dvV]
  obtain ⟨-, hb⟩ := hb
  simp only [okI64] at hb ⊢
  by_cases h : bad = 9223372036854775807
  · have HV : Hid (refD ⟨zs, size, mo, fuel, off, bad⟩ = ⟨zs, size, mo, fuel, off, 0⟩) := Lib.hid (by simp [refD, h])
    have h' : (bad == 9223372036854775807) = true := by simpa using h
    go_enter Try.func46, Try.ntmps46
    go_wp2_with fail
    refine bodyPost_ret (v := .tuple #[.agg #[.slice A n c, .int .i64 size, .int .i64 mo, .int .i64 fuel, .bool off, .int .i64 0], .int .i64 k]) ?_ rfl ⟨by rw [HV.out]; rfl, ((Q.refl w).alloc _).alloc _⟩
    rw [results_cell_tmp rfl]
    go_simp
  · have HV : Hid (refD ⟨zs, size, mo, fuel, off, bad⟩ = ⟨zs, size, mo, fuel, off, bad + 1⟩) := Lib.hid (by simp [refD, h])
    have h' : (bad == 9223372036854775807) = false := by simpa using h
    go_enter Try.func46, Try.ntmps46
    go_wp2_with fail
    refine bodyPost_ret (v := .tuple #[.agg #[.slice A n c, .int .i64 size, .int .i64 mo, .int .i64 fuel, .bool off, .int .i64 (bad + 1)], .int .i64 k]) ?_ rfl ⟨by rw [HV.out]; rfl, ((Q.refl w).alloc _).alloc _⟩
    rw [results_cell_tmp rfl]
    go_simp
set_option maxHeartbeats 8000000 in
theorem burnZ_any (d : Dv) (A : Option Addr) (n c : Nat) (w : World) (hb : okN d) (hf : -1 ≤ d.fuel) : Calls Try.prog 36 #[dvV d (.slice A n c)] w fun e w' => e = .returned (.tuple #[dvV (burnD d).1 (.slice A n c), .bool (burnD d).2]) ∧ Q w w' := by
  obtain ⟨zs, size, mo, fuel, off, bad⟩ := d
  rw [dvV]
  obtain ⟨hb, -⟩ := hb
  simp only [okI64] at hb hf ⊢
  cases off with
  | true =>
    have HV : Hid (burnD ⟨zs, size, mo, fuel, true, bad⟩ = (⟨zs, size, mo, fuel, true, bad⟩, false)) := Lib.hid (by simp [burnD])
    go_enter Try.func36, Try.ntmps36
    go_wp2_with fail
    refine bodyPost_ret (v := .tuple #[.agg #[.slice A n c, .int .i64 size, .int .i64 mo, .int .i64 fuel, .bool true, .int .i64 bad], .bool false]) ?_ rfl ⟨by rw [HV.out]; rfl, ((Q.refl w).alloc _).alloc _⟩
    rw [results_cell_tmp rfl]
    go_simp
  | false =>
    by_cases h0 : fuel = 0
    · have HV : Hid (burnD ⟨zs, size, mo, fuel, false, bad⟩ = (⟨zs, size, mo, fuel, true, bad⟩, false)) := Lib.hid (by simp [burnD, h0])
      have h' : (fuel == 0) = true := by simpa using h0
      subst h0
      go_enter Try.func36, Try.ntmps36
      go_wp2_with fail
      refine bodyPost_ret (v := .tuple #[.agg #[.slice A n c, .int .i64 size, .int .i64 mo, .int .i64 0, .bool true, .int .i64 bad], .bool false]) ?_ rfl ⟨by rw [HV.out]; rfl, ((Q.refl w).alloc _).alloc _⟩
      rw [results_cell_tmp rfl]
      go_simp
    · have h' : (fuel == 0) = false := by simpa using h0
      by_cases h1 : fuel = -1
      · have HV : Hid (burnD ⟨zs, size, mo, fuel, false, bad⟩ = (⟨zs, size, mo, -1, false, bad⟩, true)) := Lib.hid (by simp [burnD, h1])
        subst h1
        clear h0 h'
        go_enter Try.func36, Try.ntmps36
        go_wp2_with fail
        refine bodyPost_ret (v := .tuple #[.agg #[.slice A n c, .int .i64 size, .int .i64 mo, .int .i64 (-1), .bool false, .int .i64 bad], .bool true]) ?_ rfl ⟨by rw [HV.out]; rfl, ((Q.refl w).alloc _).alloc _⟩
        rw [results_cell_tmp rfl]
        go_simp
      · have h2 : 0 < fuel := by omega
        have HV : Hid (burnD ⟨zs, size, mo, fuel, false, bad⟩ = (⟨zs, size, mo, fuel - 1, false, bad⟩, true)) := Lib.hid (by simp [burnD, h0, h2])
        have h3 : (fuel != -1) = true := by simpa using h1
        clear h1 h0
        go_enter Try.func36, Try.ntmps36
        go_wp2_with fail
        refine bodyPost_ret (v := .tuple #[.agg #[.slice A n c, .int .i64 size, .int .i64 mo, .int .i64 (fuel - 1), .bool false, .int .i64 bad], .bool true]) ?_ rfl ⟨by rw [HV.out]; rfl, ((Q.refl w).alloc _).alloc _⟩
        rw [results_cell_tmp rfl]
        go_simp
end Go.Proofs.Yteoondmakdghhaa

namespace Go.Proofs.Yteoondmakdghhaa
set_option maxRecDepth 100000
open Go.ChangeShapes Go.WideShapes Go.ChangeAt Go.RowKit
set_option linter.unusedVariables false
set_option linter.unusedSimpArgs false
set_option maxRecDepth 100000
/-- The values of a slice of zones. -/
theorem Zns.vals {w : World} {B : Nat} {A : Option Addr} {n c : Nat} {l : List Zn} (h : Zns w B (.slice A n c) l) : ∃ P : List (Zn × Value), P.map (·.1) = l ∧ P.length = n ∧ (∀ p ∈ P, okZ p.1 ∧ Blks w B p.2 p.1.b) ∧
    (0 < n → ∃ a, A = some a ∧ a.block < B ∧ ∀ j u, (P.flatMap zcl)[j]? = some u → w.cell? (a.add j) = some u) := by
  obtain ⟨A', c', e, e0, ez, eo, f⟩ := h
  injection e with e1 e2 e3
  subst e1 e2 e3
  have each : ∀ i, i < l.length → ∃ p : Zn × Value, ∃ h : i < l.length, p.1 = l[i] ∧ ∃ a, A = some a ∧ a.block < B ∧ w.cell? (a.add (i * 3)) = some p.2 ∧ AtZ w B (a.add (i * 3)) l[i] ∧ Blks w B p.2 l[i].b := by
    intro i hi
    obtain ⟨a, e1, e2, h1, h2, u, h3, h4⟩ := f i hi
    exact ⟨(l[i], u), hi, rfl, a, e1, e2, h3, ⟨h1, h2, u, h3, h4⟩, h4⟩
  obtain ⟨P, hlen, hp⟩ := list_of l.length each
  have hmap : P.map (·.1) = l := List.ext_getElem (by simp [hlen]) fun i h1 h2 => by
    rw [List.getElem_map]
    obtain ⟨h, e, -⟩ := hp i (by omega)
    exact e
  refine ⟨P, hmap, hlen, fun p hpP => ?_, fun h0 => ?_⟩
  · obtain ⟨i, hi, rfl⟩ := List.getElem_of_mem hpP
    obtain ⟨h, e, a, e1, e2, e3, e4, e5⟩ := hp i hi
    rw [e]
    exact ⟨eo _ (List.getElem_mem h), e5⟩
  · obtain ⟨h, e, a, rfl, e2, e3, e4, e5⟩ := hp 0 (by omega)
    refine ⟨a, rfl, e2, fun j u hj => ?_⟩
    obtain ⟨hj1, -⟩ := List.getElem?_eq_some_iff.1 hj
    rw [flat_zcl] at hj1
    have hk : j / 3 < P.length := by omega
    have hf := flat_atZ P (j / 3) hk (j := j % 3) (by omega)
    rw [show j / 3 * 3 + j % 3 = j by omega] at hf
    rw [hf] at hj
    obtain ⟨h, e, a', e1, e2, e3, ⟨g1, g2, -⟩, e5⟩ := hp (j / 3) hk
    injection e1 with e1
    subst e1
    have hjj : a.add j = a.add (j / 3 * 3 + j % 3) := by rw [show j / 3 * 3 + j % 3 = j by omega]
    rw [hjj]
    have hs : ∀ r, 0 < r → a.add (j / 3 * 3 + r) = ⟨(a.add (j / 3 * 3)).block, (a.add (j / 3 * 3)).off + r, none⟩ := by
      intro r hr
      rw [add_pos _ (by omega), add_block]
      unfold Addr.add
      split
      · rename_i h0; simp [h0]
      · simp [Nat.add_assoc]
    match hr : j % 3, (by omega : j % 3 < 3) with
    | 0, _ => rw [hr] at hj; simp only [zcl, List.getElem?_cons_zero, Option.some.injEq] at hj; rw [← hj]; exact e3
    | 1, _ => rw [hr] at hj; simp only [zcl, List.getElem?_cons_succ, List.getElem?_cons_zero, Option.some.injEq] at hj; rw [← hj, hs 1 (by omega), e]; exact g1
    | 2, _ => rw [hr] at hj; simp only [zcl, List.getElem?_cons_succ, List.getElem?_cons_zero, Option.some.injEq] at hj; rw [← hj, hs 2 (by omega), e]; exact g2
/-- The first m rows are the call's own, each in a block of its own, behind one another. -/
def Fr (w : World) (R : Nat) (P : List (Zn × Value)) (m : Nat) : Prop := ∀ k p, k < m → P[k]? = some p → ∃ g, TB w p.2 p.1.b g ∧ R < g ∧ ∀ j q h, j < k → P[j]? = some q → q.2.ownBlock = some h → h < g
theorem map_set_fst (P : List (Zn × Value)) (k : Nat) (hk : k < P.length) (u : Value) : (P.set k (P[k].1, u)).map (·.1) = P.map (·.1) := by
  rw [List.map_set]
  exact set_self _ _ _ (by simp [hk])
theorem Fr.snoc {w w2 : World} {R g : Nat} {P : List (Zn × Value)} {m : Nat} (h : Fr w R P m) (hm : m < P.length) (q : Q w w2) (hR : R < w.heap.size) {u : Value} (ht : TB w2 u P[m].1.b g) (hg : w.heap.size ≤ g) {a : Addr} (ha : a = ⟨R, 0, none⟩) :
    Fr (w2.setCell (a.add (m * 3)) u) R (P.set m (P[m].1, u)) (m + 1) := by
  subst ha
  rw [add_flat]
  intro k p hk hp
  by_cases e : k = m
  · subst e
    rw [List.getElem?_set_self hm] at hp
    injection hp with hp
    subst hp
    refine ⟨g, ⟨ht.1, ht.2.other (by omega) _ _⟩, by omega, fun j q' h' hj hq hh => ?_⟩
    rw [List.getElem?_set_ne (by omega)] at hq
    obtain ⟨g', t', -, -⟩ := h j q' hj hq
    rw [t'.1] at hh
    simp [Value.ownBlock] at hh
    subst hh
    have := Bx.lt t'.2
    omega
  · rw [List.getElem?_set_ne (fun x => e x.symm)] at hp
    obtain ⟨g', t', r', f'⟩ := h k p (by omega) hp
    refine ⟨g', ⟨t'.1, (t'.2.on q).other (by omega) _ _⟩, r', fun j q' h' hj hq hh => ?_⟩
    rw [List.getElem?_set_ne (by omega)] at hq
    exact f' j q' h' hj hq hh
/-- What allApart leaves. -/
def ApC (d : Dv) (w : World) (e : Ending) (w' : World) : Prop := ∃ R P, e = .returned (dvV d (.slice (some ⟨R, 0, none⟩) d.zs.length d.zs.length)) ∧ w.heap.size ≤ R ∧ P.map (·.1) = d.zs ∧ (∀ p ∈ P, okZ p.1) ∧ ZB w' R P ∧ Fr w' R P P.length ∧ Q w w'
set_option maxHeartbeats 8000000 in
theorem allApart_any (d : Dv) (u : Value) (w : World) (hd : smD d) (ht : Zns w w.heap.size u d.zs) :
    Calls Try.prog 27 #[dvV d u] w (ApC d w) := by
  obtain ⟨A0, c0, rfl⟩ := ht.form
  obtain ⟨P0, hP0, hPn, hPb, hPc⟩ := Zns.vals ht
  clear ht
  obtain ⟨zs, size, mo, fuel, off, bad⟩ := d
  rw [dvV]
  obtain ⟨hl, hbl⟩ := hd
  simp only at hP0 hPn hPc hl hbl ⊢
  have HAP : Hid (∀ e w', (∃ R P, e = .returned (.agg #[.slice (some ⟨R, 0, none⟩) zs.length zs.length, .int .i64 size, .int .i64 mo, .int .i64 fuel, .bool off, .int .i64 bad]) ∧ w.heap.size ≤ R ∧ P.map (·.1) = zs ∧ (∀ p ∈ P, okZ p.1) ∧ ZB w' R P ∧ Fr w' R P P.length ∧ Q w w') → ApC ⟨zs, size, mo, fuel, off, bad⟩ w e w') := Lib.hid (fun e w' h => h)
  generalize ApC ⟨zs, size, mo, fuel, off, bad⟩ w = AP at HAP ⊢
  have HBL : Hid (∀ p ∈ P0, p.1.b.length ≤ 100000) := Lib.hid (fun p hp => hbl _ (by rw [← hP0]; exact List.mem_map.2 ⟨p, hp, rfl⟩))
  obtain ⟨n0, hn0⟩ : ∃ n, n = zs.length := ⟨_, rfl⟩
  rw [← hn0] at hPn hPc hl HAP ⊢
  have HP0 := Lib.hid hP0
  have HPB := Lib.hid hPb
  have HPC := Lib.hid hPc
  have HN0 := Lib.hid hn0
  clear hP0 hPb hPc hbl hn0
  have b0 := (Bx.new w 24 #[.slice A0 n0 c0, .int .i64 size, .int .i64 mo, .int .i64 fuel, .bool off, .int .i64 bad]).alloc (.cells #[.slice none 0 0, .int .i64 0, .int .i64 0, .int .i64 0, .bool false, .int .i64 0] 24)
  have b1 := Bx.new (w.alloc (.cells #[.slice A0 n0 c0, .int .i64 size, .int .i64 mo, .int .i64 fuel, .bool off, .int .i64 bad] 24)) 24 #[.slice none 0 0, .int .i64 0, .int .i64 0, .int .i64 0, .bool false, .int .i64 0]
  have q0 := ((Q.refl w).alloc (.cells #[.slice A0 n0 c0, .int .i64 size, .int .i64 mo, .int .i64 fuel, .bool off, .int .i64 bad] 24)).alloc (.cells #[.slice none 0 0, .int .i64 0, .int .i64 0, .int .i64 0, .bool false, .int .i64 0] 24)
  have hs0 : ((w.alloc (.cells #[.slice A0 n0 c0, .int .i64 size, .int .i64 mo, .int .i64 fuel, .bool off, .int .i64 bad] 24)).alloc (.cells #[.slice none 0 0, .int .i64 0, .int .i64 0, .int .i64 0, .bool false, .int .i64 0] 24)).heap.size = w.heap.size + 1 + 1 := by simp
  simp only [World.size_alloc] at b1
  obtain ⟨W0, hW0⟩ : ∃ z, z = (w.alloc (.cells #[.slice A0 n0 c0, .int .i64 size, .int .i64 mo, .int .i64 fuel, .bool off, .int .i64 bad] 24)).alloc (.cells #[.slice none 0 0, .int .i64 0, .int .i64 0, .int .i64 0, .bool false, .int .i64 0] 24) := ⟨_, rfl⟩
  rw [← hW0] at b0 b1 q0 hs0
  have BX0 := Lib.hid b0
  have BX1 := Lib.hid b1
  have Q0 := Lib.hid q0
  have HS0 := Lib.hid hs0
  obtain ⟨x0, x1, x2, x3, x4, x5⟩ : W0.cell? ⟨w.heap.size, 0, none⟩ = some (.slice A0 n0 c0) ∧ W0.cell? ⟨w.heap.size, 1, none⟩ = some (.int .i64 size) ∧ W0.cell? ⟨w.heap.size, 2, none⟩ = some (.int .i64 mo) ∧ W0.cell? ⟨w.heap.size, 3, none⟩ = some (.int .i64 fuel) ∧ W0.cell? ⟨w.heap.size, 4, none⟩ = some (.bool off) ∧ W0.cell? ⟨w.heap.size, 5, none⟩ = some (.int .i64 bad) := ⟨b0.cell 0, b0.cell 1, b0.cell 2, b0.cell 3, b0.cell 4, b0.cell 5⟩
  clear b0 b1 q0 hs0
  go_enter Try.func27, Try.ntmps27
  go_upto_region 1 with fail
  rw [← hW0]
  clear hW0
  go_wp2_with (at_make; refine wpList_make_bx _ rfl _ _ 22 rfl 45 (.agg #[.slice none 0 0, .int .i64 0, .bool false]) 3 40 Try.underlying22 info_zn .i64 .i64 _ _ n0 rfl rfl rfl rfl (by omega) (by unfold maxLen; omega) ?_; intro w4 hB hQ hS; refine Hid.out ?_)
  refine Lib.hid ?_
  obtain ⟨R, hR⟩ : ∃ g, g = W0.heap.size := ⟨_, rfl⟩
  rw [← hR] at hB ⊢
  have HR := Lib.hid hR
  have HRB : Hid (R = w.heap.size + 1 + 1) := Lib.hid (hR.trans HS0.out)
  clear hR
  have hsrc : Hid (0 < n0 → ∃ ad, A0 = some ad ∧ ∀ j v, (P0.flatMap zcl)[j]? = some v → w4.cell? (ad.add j) = some v) := Lib.hid (fun h0 => by
    obtain ⟨a, e, ha, f⟩ := HPC.out h0
    exact ⟨a, e, fun j v hj => ((Q0.out.trans hQ.out).cell (by rw [add_block]; exact ha)).trans (f j v hj)⟩)
  have hlen : (P0.flatMap zcl).length = n0 * 3 := by rw [flat_zcl, hPn]
  have hone : Hid (∀ v ∈ P0.flatMap zcl, v.oneCell' = true) := Lib.hid (by
    intro u hu
    obtain ⟨p, hp, hu⟩ := List.mem_flatMap.1 hu
    obtain ⟨A, c, e⟩ := (HPB.out p hp).2.form
    exact zcl_one ⟨A, _, c, e⟩ u hu)
  obtain ⟨cs, hcs⟩ : ∃ cs, cs = P0.flatMap zcl := ⟨_, rfl⟩
  rw [← hcs] at hsrc hlen hone
  have HC := Lib.hid hcs
  clear hcs x0 x1 x2 x3 x4 x5
  have x0 : w4.cell? ⟨w.heap.size, 0, none⟩ = some (.slice A0 n0 c0) := (BX0.out.on hQ.out).cell 0
  go_wp2_with (with_reducible refine wpList_copy_bx rfl (.tmp 9) (.tmp 11) 22 22 rfl 45 3 Try.underlying22 (by kernel_rfl) A0 n0 _ _ R rfl rfl _ _ hB cs hlen hsrc.out (by rw [size_madeCells]; exact hlen) hone.out ?_; intro w5 hB5 hK5; refine Hid.out ?_)
  refine Lib.hid ?_
  clear x0
  obtain ⟨a, ha⟩ : ∃ a : Addr, a = ⟨R, 0, none⟩ := ⟨_, rfl⟩
  rw [← ha]
  have HA := Lib.hid ha
  clear ha
  have z5 : ZB w5 R P0 := by unfold ZB; rw [← HC.out]; exact hB5.out
  have q5 : Q W0 w5 := Kp.q hQ.out hK5.out (by rw [HR.out]; exact Nat.le_refl _)
  have Z5 := Lib.hid z5
  have Q5 := Lib.hid q5
  clear z5 q5 hsrc hlen hone HC hB5 hK5 hB hQ hS
  go_wp2_with fail
  go_loopw [15] (fun I wr => ∃ (i : Nat) (P : List (Zn × Value)), i ≤ n0 ∧ I = .int .i64 i ∧ P.length = n0 ∧ Hid (P.map (·.1) = P0.map (·.1)) ∧ Hid (ZB wr R P) ∧ Hid (∀ k, i ≤ k → P[k]? = P0[k]?) ∧ Hid (Fr wr R P i) ∧ Hid (Q W0 wr)) (fun I _ => n0 - (intOf I).toNat)
  case atStart => exact ⟨0, P0, Nat.zero_le _, rfl, hPn, Lib.hid rfl, Z5, Lib.hid (fun _ _ => rfl), Lib.hid (fun k p hk => absurd hk (by omega)), Q5⟩
  case round =>
    obtain ⟨i, P, hil, rfl, hPl, HM, HZ, HT, HF, HQ⟩ := hrel
    clear Z5 Q5
    by_cases hlt : i < n0
    · have hiP : i < P.length := by omega
      obtain ⟨z0, -, -, f0, -⟩ := HZ.out.at HA.out i hiP
      have hpe : P[i]? = P0[i]? := HT.out i (Nat.le_refl _)
      have hp0 : P[i] ∈ P0 := List.mem_of_getElem? (by rw [← hpe]; exact List.getElem?_eq_getElem hiP)
      have hbk := (HPB.out _ hp0).2
      have hbl := HBL.out _ hp0
      have HX : Hid (∀ u, (P.set i (P[i].1, u)).map (·.1) = P0.map (·.1)) := Lib.hid (fun u => (map_set_fst P i hiP u).trans HM.out)
      obtain ⟨p, hp⟩ : ∃ p, p = P[i] := ⟨_, rfl⟩
      have HPP := Lib.hid hp
      rw [← hp] at z0 hbk hbl
      clear hp hp0 hpe
      obtain ⟨A1, c1, hv1⟩ := hbk.form
      rw [hv1] at z0 hbk
      have qw : Q w wr := Q0.out.trans HQ.out
      have C := Lib.hid (apartZ_any p.1.b _ wr hbl ((hbk.below qw).more qw.size))
      clear hbk hbl hv1 qw
      have hilt : (i : Int) < (n0 : Int) := by omega
      have hRlt : Hid (R < wr.heap.size) := Lib.hid (Bx.lt HZ.out)
      go_wp2_with fail
      refine (C.out).mono ?_
      rintro e w6 ⟨v6, g6, rfl, t6, hg6, hg7, d6⟩
      clear z0 f0
      have z6 : ZB w6 R P := Bx.on HZ.out d6
      obtain ⟨y0, -, -, f0, -⟩ := z6.at HA.out i hiP
      obtain ⟨e6, s6, hv6⟩ : ∃ (e6 : Option Addr) (s6 : Nat), v6 = .slice e6 s6 s6 := ⟨_, _, t6.1⟩
      subst hv6
      have T6 := Lib.hid t6
      have D6 := Lib.hid d6
      have HG6 := Lib.hid hg6
      have Z6 := Lib.hid z6
      clear t6 d6 hg6 hg7 z6
      go_wp2_with fail
      go_roundw
      case rel =>
        refine ⟨i + 1, P.set i (P[i].1, .slice e6 s6 s6), by omega, by go_num, by rw [List.length_set]; exact hPl, Lib.hid (HX.out _), Lib.hid (Z6.out.put HA.out i hiP _), Lib.hid (fun k hk => ?_), Lib.hid ?_, Lib.hid ?_⟩
        · rw [List.getElem?_set_ne (by omega)]; exact HT.out k (by omega)
        · exact HF.out.snoc hiP D6.out hRlt.out (by rw [← HPP.out]; exact T6.out) HG6.out HA.out
        · rw [HA.out, add_flat]
          exact Q.set (HQ.out.trans D6.out) (by rw [HR.out]; exact Nat.le_refl _) _
      case measure => simp [intOf]; omega
    · obtain rfl : i = n0 := by omega
      have hilt : ¬ (i : Int) < (i : Int) := by omega
      have b0 := BX0.out.on HQ.out
      have b1 := BX1.out.on HQ.out
      have x0 := b0.cell 0
      have f0 := b0.frozen 0
      go_upto_region 9 with fail
      have c0' := b0.set 0 (.slice (some a) i i)
      have c1' := b1.other (B2 := w.heap.size) (by omega) 0 (.slice (some a) i i)
      have q8 : Q w (wr.setCell ⟨w.heap.size, 0, none⟩ (.slice (some a) i i)) := Q.set (Q0.out.trans HQ.out) (by omega) _
      have k8 : ∀ j, R ≤ j → (wr.setCell ⟨w.heap.size, 0, none⟩ (.slice (some a) i i)).heap[j]? = wr.heap[j]? := fun j hj => heap_set _ _ _ _ (by have := HRB.out; omega)
      obtain ⟨w8, hw8⟩ : ∃ z, z = wr.setCell ⟨w.heap.size, 0, none⟩ (.slice (some a) i i) := ⟨_, rfl⟩
      rw [← hw8] at c0' c1' q8 k8 ⊢
      clear hw8
      simp only [List.setIfInBounds_toArray, List.set_cons_zero, List.set_cons_succ] at c0'
      clear x0 f0 b0 b1
      obtain ⟨x0, x1, x2, x3, x4, x5⟩ : w8.cell? ⟨w.heap.size, 0, none⟩ = some (.slice (some a) i i) ∧ w8.cell? ⟨w.heap.size, 1, none⟩ = some (.int .i64 size) ∧ w8.cell? ⟨w.heap.size, 2, none⟩ = some (.int .i64 mo) ∧ w8.cell? ⟨w.heap.size, 3, none⟩ = some (.int .i64 fuel) ∧ w8.cell? ⟨w.heap.size, 4, none⟩ = some (.bool off) ∧ w8.cell? ⟨w.heap.size, 5, none⟩ = some (.int .i64 bad) := ⟨c0'.cell 0, c0'.cell 1, c0'.cell 2, c0'.cell 3, c0'.cell 4, c0'.cell 5⟩
      obtain ⟨g0, g1, g2, g3, g4, g5⟩ : w8.cell? ⟨w.heap.size + 1, 0, none⟩ = some (.slice none 0 0) ∧ w8.cell? ⟨w.heap.size + 1, 1, none⟩ = some (.int .i64 0) ∧ w8.cell? ⟨w.heap.size + 1, 2, none⟩ = some (.int .i64 0) ∧ w8.cell? ⟨w.heap.size + 1, 3, none⟩ = some (.int .i64 0) ∧ w8.cell? ⟨w.heap.size + 1, 4, none⟩ = some (.bool false) ∧ w8.cell? ⟨w.heap.size + 1, 5, none⟩ = some (.int .i64 0) := ⟨c1'.cell 0, c1'.cell 1, c1'.cell 2, c1'.cell 3, c1'.cell 4, c1'.cell 5⟩
      have l0 := c1'.frozen 0
      have l1 := c1'.frozen 1
      have l2 := c1'.frozen 2
      have l3 := c1'.frozen 3
      have l4 := c1'.frozen 4
      have l5 := c1'.frozen 5
      have c2 := ((((((c1'.set 0 (.slice (some a) i i)).set 1 (.int .i64 size)).set 2 (.int .i64 mo)).set 3 (.int .i64 fuel)).set 4 (.bool off)).set 5 (.int .i64 bad))
      have q9 : Q w ((((((w8.setCell ⟨w.heap.size + 1, 0, none⟩ (.slice (some a) i i)).setCell ⟨w.heap.size + 1, 1, none⟩ (.int .i64 size)).setCell ⟨w.heap.size + 1, 2, none⟩ (.int .i64 mo)).setCell ⟨w.heap.size + 1, 3, none⟩ (.int .i64 fuel)).setCell ⟨w.heap.size + 1, 4, none⟩ (.bool off)).setCell ⟨w.heap.size + 1, 5, none⟩ (.int .i64 bad)) := (Q.set (Q.set (Q.set (Q.set (Q.set (Q.set q8 (by omega) _) (by omega) _) (by omega) _) (by omega) _) (by omega) _) (by omega) _)
      have k9 : ∀ j, R ≤ j → ((((((w8.setCell ⟨w.heap.size + 1, 0, none⟩ (.slice (some a) i i)).setCell ⟨w.heap.size + 1, 1, none⟩ (.int .i64 size)).setCell ⟨w.heap.size + 1, 2, none⟩ (.int .i64 mo)).setCell ⟨w.heap.size + 1, 3, none⟩ (.int .i64 fuel)).setCell ⟨w.heap.size + 1, 4, none⟩ (.bool off)).setCell ⟨w.heap.size + 1, 5, none⟩ (.int .i64 bad)).heap[j]? = w8.heap[j]? := fun j hj => by
        have hne : j ≠ w.heap.size + 1 := by have := HRB.out; omega
        exact (heap_set _ _ _ _ hne).trans ( (heap_set _ _ _ _ hne).trans ( (heap_set _ _ _ _ hne).trans ( (heap_set _ _ _ _ hne).trans ( (heap_set _ _ _ _ hne).trans ( heap_set _ _ _ _ hne)))))
      obtain ⟨w9, hw9⟩ : ∃ z, z = ((((((w8.setCell ⟨w.heap.size + 1, 0, none⟩ (.slice (some a) i i)).setCell ⟨w.heap.size + 1, 1, none⟩ (.int .i64 size)).setCell ⟨w.heap.size + 1, 2, none⟩ (.int .i64 mo)).setCell ⟨w.heap.size + 1, 3, none⟩ (.int .i64 fuel)).setCell ⟨w.heap.size + 1, 4, none⟩ (.bool off)).setCell ⟨w.heap.size + 1, 5, none⟩ (.int .i64 bad)) := ⟨_, rfl⟩
      rw [← hw9] at c2 q9 k9
      simp only [List.setIfInBounds_toArray, List.set_cons_zero, List.set_cons_succ] at c2
      have C2 := Lib.hid c2
      have Q9 := Lib.hid q9
      have K9 : Hid (∀ j, R ≤ j → w9.heap[j]? = wr.heap[j]?) := Lib.hid (fun j hj => (k9 j hj).trans (k8 j hj))
      clear c2 q9 k9 q8 k8 c0' c1'
      go_wp2_with fail
      rw [← hw9]
      clear hw9
      obtain ⟨k0, k1, k2, k3, k4, k5⟩ : w9.cell? ⟨w.heap.size + 1, 0, none⟩ = some (.slice (some a) i i) ∧ w9.cell? ⟨w.heap.size + 1, 1, none⟩ = some (.int .i64 size) ∧ w9.cell? ⟨w.heap.size + 1, 2, none⟩ = some (.int .i64 mo) ∧ w9.cell? ⟨w.heap.size + 1, 3, none⟩ = some (.int .i64 fuel) ∧ w9.cell? ⟨w.heap.size + 1, 4, none⟩ = some (.bool off) ∧ w9.cell? ⟨w.heap.size + 1, 5, none⟩ = some (.int .i64 bad) := ⟨C2.out.cell 0, C2.out.cell 1, C2.out.cell 2, C2.out.cell 3, C2.out.cell 4, C2.out.cell 5⟩
      (try simp only [Exit.inBlock, Exit.then])
      refine bodyPost_ret (v := .agg #[.slice (some a) i i, .int .i64 size, .int .i64 mo, .int .i64 fuel, .bool off, .int .i64 bad]) ?_ rfl ?_
      · simp [results, Try.results27, go_sem] at k0 k1 k2 k3 k4 k5 ⊢
        simp [k0, k1, k2, k3, k4, k5]
      refine HAP.out _ _ ⟨R, P, by rw [HA.out], ?_, HM.out.trans HP0.out, fun p hp => ?_, ?_, fun k p hk hp => ?_, Q9.out⟩
      · have := HRB.out; omega
      · obtain ⟨p', hp', e⟩ := List.mem_map.1 (show p.1 ∈ P0.map (·.1) by rw [← HM.out]; exact List.mem_map.2 ⟨p, hp, rfl⟩)
        rw [← e]; exact (HPB.out p' hp').1
      · exact Bx.same HZ.out (K9.out R (Nat.le_refl _))
      · obtain ⟨g, t, r, f⟩ := HF.out k p (by omega) hp
        exact ⟨g, ⟨t.1, t.2.same (K9.out g (by omega))⟩, r, f⟩
end Go.Proofs.Yteoondmakdghhaa

namespace Go.Proofs.Yteoondmakdghhaa
set_option maxRecDepth 100000
open Go.ChangeShapes Go.WideShapes Go.ChangeAt Go.RowKit
set_option linter.unusedVariables false
set_option linter.unusedSimpArgs false
set_option maxRecDepth 100000
/-- What a command leaves: the device, and the error's number. -/
def DevC (r : Dv × Nat) (w : World) (e : Ending) (w' : World) : Prop := ∃ v, e = .returned (.tuple #[dvV r.1 v, .int .i64 (r.2 : Nat)]) ∧ Zns w' w'.heap.size v r.1.zs ∧ Q w w'
theorem made_flat (n : Nat) : madeCells (Value.agg #[.slice none 0 0, .int .i64 0, .bool false]).cells (n * 3) = ((List.replicate n (noZn, Value.slice none 0 0)).flatMap zcl).toArray := by
  apply Array.ext'
  apply List.ext_getElem?
  intro j
  by_cases hj : j < n * 3
  · have hf := flat_atZ (List.replicate n (noZn, Value.slice none 0 0)) (j / 3) (by rw [List.length_replicate]; omega) (j := j % 3) (by omega)
    rw [show j / 3 * 3 + j % 3 = j by omega] at hf
    rw [hf]
    simp only [madeCells, Array.toList_map, Array.toList_range, List.getElem?_map, List.getElem?_range hj, Option.map_some, List.getElem_replicate]
    show some ((#[Value.slice none 0 0, Value.int .i64 0, Value.bool false])[j % 3]!) = _
    match j % 3, (by omega : j % 3 < 3) with
    | 0, _ => rfl
    | 1, _ => rfl
    | 2, _ => rfl
  · rw [List.getElem?_eq_none (by simp [size_madeCells]; omega), List.getElem?_eq_none (by show (List.flatMap zcl _).length ≤ j; rw [flat_zcl, List.length_replicate]; omega)]
theorem new_not {n : Nat} {s o : Int} (h : ¬ (1 ≤ n ∧ n ≤ 40 ∧ 1 ≤ s ∧ s ≤ 300 ∧ 1 ≤ o)) : mayD ⟨List.replicate n noZn, s, o, -1, false, 0⟩ = false := by
  cases hm : mayD ⟨List.replicate n noZn, s, o, -1, false, 0⟩ with
  | false => rfl
  | true =>
    obtain ⟨h1, h2, h3, h4, h5, -⟩ := mayD_iff.1 hm
    simp only [List.length_replicate] at h1 h2 h3 h4 h5
    exact absurd ⟨h1, h2, h3, h4, h5⟩ h
set_option maxHeartbeats 8000000 in
theorem newZ_any (n s o : Int) (w : World) : Calls Try.prog 15 #[.int .i64 n, .int .i64 s, .int .i64 o] w (DevC (newD n s o) w) := by
  by_cases hn : 1 ≤ n ∧ n ≤ 40
  · obtain ⟨m, rfl⟩ : ∃ m : Nat, n = (m : Int) := ⟨n.toNat, by omega⟩
    obtain ⟨hn1, hn2⟩ := hn
    have hm1 : 1 ≤ m := by omega
    have hm2 : m ≤ 40 := by omega
    have n1 : ¬ (m : Int) < 1 := by omega
    have n2 : ¬ (40 : Int) < (m : Int) := by omega
    clear hn1 hn2
    have HD : Hid (∀ b, b = mayD ⟨List.replicate m noZn, s, o, -1, false, 0⟩ → newD m s o = if b = true then (⟨List.replicate m noZn, s, o, -1, false, 0⟩, 0) else (noDv, 1)) := Lib.hid (fun b hb => by
      subst hb
      unfold newD
      by_cases hc : 1 ≤ (m : Int) ∧ (m : Int) ≤ 40 ∧ 1 ≤ s ∧ s ≤ 300 ∧ 1 ≤ o
      · have := new_may hc
        unfold newD at this
        rw [if_pos hc] at this ⊢
        simp only [Int.toNat_natCast] at this ⊢
        rw [this]; rfl
      · rw [if_neg hc, new_not (fun h => hc ⟨by omega, by omega, h.2.2⟩)]; rfl)
    obtain ⟨RES, hRES⟩ : ∃ r, r = newD m s o := ⟨_, rfl⟩
    rw [← hRES] at HD ⊢
    clear hRES
    have b0 := Bx.new w 24 #[.slice none 0 0, .int .i64 0, .int .i64 0, .int .i64 0, .bool false, .int .i64 0]
    have q0 := (Q.refl w).alloc (.cells #[.slice none 0 0, .int .i64 0, .int .i64 0, .int .i64 0, .bool false, .int .i64 0] 24)
    have hs0 : (w.alloc (.cells #[.slice none 0 0, .int .i64 0, .int .i64 0, .int .i64 0, .bool false, .int .i64 0] 24)).heap.size = w.heap.size + 1 := by simp
    obtain ⟨W0, hW0⟩ : ∃ z, z = w.alloc (.cells #[.slice none 0 0, .int .i64 0, .int .i64 0, .int .i64 0, .bool false, .int .i64 0] 24) := ⟨_, rfl⟩
    rw [← hW0] at b0 q0 hs0
    have BX := Lib.hid b0
    have Q0 := Lib.hid q0
    have HS0 := Lib.hid hs0
    clear b0 q0 hs0
    go_enter Try.func15, Try.ntmps15
    go_upto_region 1 with fail
    rw [← hW0]
    clear hW0
    go_wp2_with (at_make; refine wpList_make_bx _ rfl _ _ 22 rfl 45 (.agg #[.slice none 0 0, .int .i64 0, .bool false]) 3 40 Try.underlying22 info_zn .i64 .i64 _ _ m rfl rfl rfl rfl (by omega) (by unfold maxLen; omega) ?_; intro w4 hB hQ hS; refine Hid.out ?_)
    refine Lib.hid ?_
    obtain ⟨R, hR⟩ : ∃ g, g = W0.heap.size := ⟨_, rfl⟩
    rw [← hR] at hB hS ⊢
    have HR : Hid (R = w.heap.size + 1) := Lib.hid (hR.trans HS0.out)
    clear hR
    rw [made_flat] at hB
    have ZW : Hid (∀ x, Q w4 x → Zns x x.heap.size (.slice (some ⟨R, 0, none⟩) m m) (List.replicate m noZn)) := Lib.hid (fun x q => by
      have := ZB.zns (w := x) (P := List.replicate m (noZn, Value.slice none 0 0)) (Bx.on hB.out q) rfl (fun p hp => by
        rw [(List.mem_replicate.1 hp).2]
        exact ⟨⟨by simp [noZn], by simp [noZn], by simp [noZn]⟩, Blks.nil _ _⟩) (n := m) (by simp)
      rwa [List.map_replicate] at this)
    have qn := (Q.refl w4).alloc (.cells #[.slice (some ⟨R, 0, none⟩) m m, .int .i64 s, .int .i64 o, .int .i64 (-1), .bool false, .int .i64 0] 24)
    have bn := Bx.new w4 24 #[.slice (some ⟨R, 0, none⟩) m m, .int .i64 s, .int .i64 o, .int .i64 (-1), .bool false, .int .i64 0]
    have C := Lib.hid (mayZ_any ⟨List.replicate m noZn, s, o, -1, false, 0⟩ (.slice (some ⟨R, 0, none⟩) m m) (w4.alloc (.cells #[.slice (some ⟨R, 0, none⟩) m m, .int .i64 s, .int .i64 o, .int .i64 (-1), .bool false, .int .i64 0] 24)) ⟨by simp; omega, fun z hz => by rw [(List.mem_replicate.1 hz).2]; simp [noZn]⟩ (ZW.out _ qn))
    rw [dvV] at C
    simp only at C
    obtain ⟨mb, hmb⟩ : ∃ b, b = mayD ⟨List.replicate m noZn, s, o, -1, false, 0⟩ := ⟨_, rfl⟩
    rw [← hmb] at C
    have HV := Lib.hid (HD.out mb hmb)
    have Q4 := Lib.hid (Q0.out.trans hQ.out)
    have BX4 := Lib.hid (BX.out.on hQ.out)
    have QN := Lib.hid qn
    have BN := Lib.hid bn
    clear hmb qn bn HD
    go_wp2_with fail
    refine (C.out).mono ?_
    rintro e w6 ⟨rfl, d6⟩
    have b6 := BX4.out.on (QN.out.trans d6)
    have q6 := (Q4.out.trans QN.out).trans d6
    have ZQ := Lib.hid (QN.out.trans d6)
    have y6 := BN.out.on d6
    cases mb with
    | true =>
      have hsz := hS.out
      rw [hsz] at y6
      obtain ⟨y0, y1, y2, y3, y4, y5⟩ : w6.cell? ⟨R + 1, 0, none⟩ = some (.slice (some ⟨R, 0, none⟩) m m) ∧ w6.cell? ⟨R + 1, 1, none⟩ = some (.int .i64 s) ∧ w6.cell? ⟨R + 1, 2, none⟩ = some (.int .i64 o) ∧ w6.cell? ⟨R + 1, 3, none⟩ = some (.int .i64 (-1)) ∧ w6.cell? ⟨R + 1, 4, none⟩ = some (.bool false) ∧ w6.cell? ⟨R + 1, 5, none⟩ = some (.int .i64 0) := ⟨y6.cell 0, y6.cell 1, y6.cell 2, y6.cell 3, y6.cell 4, y6.cell 5⟩
      obtain ⟨g0, g1, g2, g3, g4, g5⟩ : w6.cell? ⟨w.heap.size, 0, none⟩ = some (.slice none 0 0) ∧ w6.cell? ⟨w.heap.size, 1, none⟩ = some (.int .i64 0) ∧ w6.cell? ⟨w.heap.size, 2, none⟩ = some (.int .i64 0) ∧ w6.cell? ⟨w.heap.size, 3, none⟩ = some (.int .i64 0) ∧ w6.cell? ⟨w.heap.size, 4, none⟩ = some (.bool false) ∧ w6.cell? ⟨w.heap.size, 5, none⟩ = some (.int .i64 0) := ⟨b6.cell 0, b6.cell 1, b6.cell 2, b6.cell 3, b6.cell 4, b6.cell 5⟩
      have l0 := b6.frozen 0
      have l1 := b6.frozen 1
      have l2 := b6.frozen 2
      have l3 := b6.frozen 3
      have l4 := b6.frozen 4
      have l5 := b6.frozen 5
      have c9 := ((((((b6.set 0 (.slice (some ⟨R, 0, none⟩) m m)).set 1 (.int .i64 s)).set 2 (.int .i64 o)).set 3 (.int .i64 (-1))).set 4 (.bool false)).set 5 (.int .i64 0))
      have q9 : Q w ((((((w6.setCell ⟨w.heap.size, 0, none⟩ (.slice (some ⟨R, 0, none⟩) m m)).setCell ⟨w.heap.size, 1, none⟩ (.int .i64 s)).setCell ⟨w.heap.size, 2, none⟩ (.int .i64 o)).setCell ⟨w.heap.size, 3, none⟩ (.int .i64 (-1))).setCell ⟨w.heap.size, 4, none⟩ (.bool false)).setCell ⟨w.heap.size, 5, none⟩ (.int .i64 0)) := (Q.set (Q.set (Q.set (Q.set (Q.set (Q.set q6 (by omega) _) (by omega) _) (by omega) _) (by omega) _) (by omega) _) (by omega) _)
      have k9 : ∀ j, j ≠ w.heap.size → ((((((w6.setCell ⟨w.heap.size, 0, none⟩ (.slice (some ⟨R, 0, none⟩) m m)).setCell ⟨w.heap.size, 1, none⟩ (.int .i64 s)).setCell ⟨w.heap.size, 2, none⟩ (.int .i64 o)).setCell ⟨w.heap.size, 3, none⟩ (.int .i64 (-1))).setCell ⟨w.heap.size, 4, none⟩ (.bool false)).setCell ⟨w.heap.size, 5, none⟩ (.int .i64 0)).heap[j]? = w6.heap[j]? := fun j hne => (heap_set _ _ _ _ hne).trans ( (heap_set _ _ _ _ hne).trans ( (heap_set _ _ _ _ hne).trans ( (heap_set _ _ _ _ hne).trans ( (heap_set _ _ _ _ hne).trans ( heap_set _ _ _ _ hne)))))
      obtain ⟨w9, hw9⟩ : ∃ z, z = ((((((w6.setCell ⟨w.heap.size, 0, none⟩ (.slice (some ⟨R, 0, none⟩) m m)).setCell ⟨w.heap.size, 1, none⟩ (.int .i64 s)).setCell ⟨w.heap.size, 2, none⟩ (.int .i64 o)).setCell ⟨w.heap.size, 3, none⟩ (.int .i64 (-1))).setCell ⟨w.heap.size, 4, none⟩ (.bool false)).setCell ⟨w.heap.size, 5, none⟩ (.int .i64 0)) := ⟨_, rfl⟩
      rw [← hw9] at c9 q9 k9
      simp only [List.setIfInBounds_toArray, List.set_cons_zero, List.set_cons_succ] at c9
      have C9 := Lib.hid c9
      have Q9 := Lib.hid q9
      have K9 := Lib.hid k9
      clear c9 q9 k9
      go_wp2_with fail
      rw [← hw9]
      clear hw9
      obtain ⟨k0, k1, k2, k3, k4, k5⟩ : w9.cell? ⟨w.heap.size, 0, none⟩ = some (.slice (some ⟨R, 0, none⟩) m m) ∧ w9.cell? ⟨w.heap.size, 1, none⟩ = some (.int .i64 s) ∧ w9.cell? ⟨w.heap.size, 2, none⟩ = some (.int .i64 o) ∧ w9.cell? ⟨w.heap.size, 3, none⟩ = some (.int .i64 (-1)) ∧ w9.cell? ⟨w.heap.size, 4, none⟩ = some (.bool false) ∧ w9.cell? ⟨w.heap.size, 5, none⟩ = some (.int .i64 0) := ⟨C9.out.cell 0, C9.out.cell 1, C9.out.cell 2, C9.out.cell 3, C9.out.cell 4, C9.out.cell 5⟩
      (try simp only [Exit.inBlock, Exit.then])
      refine bodyPost_ret (v := .tuple #[.agg #[.slice (some ⟨R, 0, none⟩) m m, .int .i64 s, .int .i64 o, .int .i64 (-1), .bool false, .int .i64 0], .int .i64 0]) ?_ rfl ?_
      · rw [results_cell_tmp rfl]
        go_simp
      · rw [HV.out]
        have hz := ZW.out _ ZQ.out
        have hne : R ≠ w.heap.size := by have := HR.out; omega
        have hB9 : ZB w9 R (List.replicate m (noZn, Value.slice none 0 0)) := (K9.out R hne).trans (Bx.on hB.out ZQ.out)
        have := ZB.zns hB9 rfl (fun p hp => by
          rw [(List.mem_replicate.1 hp).2]
          exact ⟨⟨by simp [noZn], by simp [noZn], by simp [noZn]⟩, Blks.nil _ _⟩) (n := m) (by simp)
        rw [List.map_replicate] at this
        exact ⟨.slice (some ⟨R, 0, none⟩) m m, rfl, this, Q9.out⟩
    | false =>
      obtain ⟨g0, g1, g2, g3, g4, g5⟩ : w6.cell? ⟨w.heap.size, 0, none⟩ = some (.slice none 0 0) ∧ w6.cell? ⟨w.heap.size, 1, none⟩ = some (.int .i64 0) ∧ w6.cell? ⟨w.heap.size, 2, none⟩ = some (.int .i64 0) ∧ w6.cell? ⟨w.heap.size, 3, none⟩ = some (.int .i64 0) ∧ w6.cell? ⟨w.heap.size, 4, none⟩ = some (.bool false) ∧ w6.cell? ⟨w.heap.size, 5, none⟩ = some (.int .i64 0) := ⟨b6.cell 0, b6.cell 1, b6.cell 2, b6.cell 3, b6.cell 4, b6.cell 5⟩
      have l0 := b6.frozen 0
      have l1 := b6.frozen 1
      have l2 := b6.frozen 2
      have l3 := b6.frozen 3
      have l4 := b6.frozen 4
      have l5 := b6.frozen 5
      have c9 := ((((((b6.set 0 (.slice none 0 0)).set 1 (.int .i64 0)).set 2 (.int .i64 0)).set 3 (.int .i64 0)).set 4 (.bool false)).set 5 (.int .i64 0))
      have q9 : Q w ((((((w6.setCell ⟨w.heap.size, 0, none⟩ (.slice none 0 0)).setCell ⟨w.heap.size, 1, none⟩ (.int .i64 0)).setCell ⟨w.heap.size, 2, none⟩ (.int .i64 0)).setCell ⟨w.heap.size, 3, none⟩ (.int .i64 0)).setCell ⟨w.heap.size, 4, none⟩ (.bool false)).setCell ⟨w.heap.size, 5, none⟩ (.int .i64 0)) := (Q.set (Q.set (Q.set (Q.set (Q.set (Q.set q6 (by omega) _) (by omega) _) (by omega) _) (by omega) _) (by omega) _) (by omega) _)
      have k9 : ∀ j, j ≠ w.heap.size → ((((((w6.setCell ⟨w.heap.size, 0, none⟩ (.slice none 0 0)).setCell ⟨w.heap.size, 1, none⟩ (.int .i64 0)).setCell ⟨w.heap.size, 2, none⟩ (.int .i64 0)).setCell ⟨w.heap.size, 3, none⟩ (.int .i64 0)).setCell ⟨w.heap.size, 4, none⟩ (.bool false)).setCell ⟨w.heap.size, 5, none⟩ (.int .i64 0)).heap[j]? = w6.heap[j]? := fun j hne => (heap_set _ _ _ _ hne).trans ( (heap_set _ _ _ _ hne).trans ( (heap_set _ _ _ _ hne).trans ( (heap_set _ _ _ _ hne).trans ( (heap_set _ _ _ _ hne).trans ( heap_set _ _ _ _ hne)))))
      obtain ⟨w9, hw9⟩ : ∃ z, z = ((((((w6.setCell ⟨w.heap.size, 0, none⟩ (.slice none 0 0)).setCell ⟨w.heap.size, 1, none⟩ (.int .i64 0)).setCell ⟨w.heap.size, 2, none⟩ (.int .i64 0)).setCell ⟨w.heap.size, 3, none⟩ (.int .i64 0)).setCell ⟨w.heap.size, 4, none⟩ (.bool false)).setCell ⟨w.heap.size, 5, none⟩ (.int .i64 0)) := ⟨_, rfl⟩
      rw [← hw9] at c9 q9 k9
      simp only [List.setIfInBounds_toArray, List.set_cons_zero, List.set_cons_succ] at c9
      have C9 := Lib.hid c9
      have Q9 := Lib.hid q9
      have K9 := Lib.hid k9
      clear c9 q9 k9
      go_wp2_with fail
      rw [← hw9]
      clear hw9
      obtain ⟨k0, k1, k2, k3, k4, k5⟩ : w9.cell? ⟨w.heap.size, 0, none⟩ = some (.slice none 0 0) ∧ w9.cell? ⟨w.heap.size, 1, none⟩ = some (.int .i64 0) ∧ w9.cell? ⟨w.heap.size, 2, none⟩ = some (.int .i64 0) ∧ w9.cell? ⟨w.heap.size, 3, none⟩ = some (.int .i64 0) ∧ w9.cell? ⟨w.heap.size, 4, none⟩ = some (.bool false) ∧ w9.cell? ⟨w.heap.size, 5, none⟩ = some (.int .i64 0) := ⟨C9.out.cell 0, C9.out.cell 1, C9.out.cell 2, C9.out.cell 3, C9.out.cell 4, C9.out.cell 5⟩
      (try simp only [Exit.inBlock, Exit.then])
      refine bodyPost_ret (v := .tuple #[.agg #[.slice none 0 0, .int .i64 0, .int .i64 0, .int .i64 0, .bool false, .int .i64 0], .int .i64 1]) ?_ rfl ?_
      · rw [results_cell_tmp rfl]
        go_simp
      · rw [HV.out]
        exact ⟨.slice none 0 0, rfl, Zns.nil _ _, Q9.out⟩
  · have HV : Hid (newD n s o = (noDv, 1)) := Lib.hid (by unfold newD; rw [if_neg (fun h => hn ⟨h.1, h.2.1⟩)])
    by_cases h1 : n < 1
    · clear hn
      go_enter Try.func15, Try.ntmps15
      go_wp2_with fail
      refine bodyPost_ret (v := .tuple #[.agg #[.slice none 0 0, .int .i64 0, .int .i64 0, .int .i64 0, .bool false, .int .i64 0], .int .i64 1]) ?_ rfl ?_
      · rw [results_cell_tmp rfl]
        go_simp
      · rw [HV.out]
        exact ⟨.slice none 0 0, rfl, Zns.nil _ _, (Q.refl w).alloc _⟩
    · have h2 : (40 : Int) < n := by omega
      clear hn
      go_enter Try.func15, Try.ntmps15
      go_wp2_with fail
      refine bodyPost_ret (v := .tuple #[.agg #[.slice none 0 0, .int .i64 0, .int .i64 0, .int .i64 0, .bool false, .int .i64 0], .int .i64 1]) ?_ rfl ?_
      · rw [results_cell_tmp rfl]
        go_simp
      · rw [HV.out]
        exact ⟨.slice none 0 0, rfl, Zns.nil _ _, (Q.refl w).alloc _⟩
end Go.Proofs.Yteoondmakdghhaa

