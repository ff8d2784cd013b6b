/-
  Contracts of the program's laying, ahead and over.
-/
import Derived.Test.YtflfhigldkdlmaaPWithout
import Derived.Maps.OwnSet
namespace Go.Proofs.Ytflfhigldkdlmaa
open Go.ChangeShapes Go.WideShapes Go.ChangeAt Go.RowKit
set_option linter.unusedVariables false
set_option linter.unusedSimpArgs false

/-- A function as a value. -/
def fnV (g : Nat) : Value := .func (.func g) #[] #[]
/-- The map of how each state lays. -/
def lay0 : Array MapEntry := #[]
def lay1 : Array MapEntry := lay0.push ⟨.int .i64 0, fnV 36, 0⟩
def lay2 : Array MapEntry := lay1.push ⟨.int .i64 1, fnV 37, 1⟩
def lay3 : Array MapEntry := lay2.push ⟨.int .i64 2, fnV 36, 2⟩
abbrev layT : Nat := 60
theorem run_checkKey_int (w : World) (e : Bool) (k : Int) : (Instr.checkKey e 10000 3 (.int .i64 k)).run Try.prog w = .ok () w := by
  rw [show (10000 : Nat) = 9999 + 1 from rfl, Instr.checkKey]
  simp [run_underlying Try.underlying3]
open Go.ChangeMaps (setBlock)
theorem run_findKey_now (w : World) (k : Int) (es : List MapEntry) (r : Option (Nat × Value)) (hf : Instr.findNow (.int .i64) (.int .i64 k) es 0 = some r) : (Instr.findKey 3 (.int .i64 k) es).run Try.prog w = .ok r w := by
  simp [Instr.findKey, run_underlying Try.underlying3, hf]
theorem run_insert (w : World) (b : Nat) (es : Array MapEntry) (clock : Nat) (k : Int) (f : Value) (hb : w.heap[b]? = some (.map es clock)) (hf : Instr.findNow (.int .i64) (.int .i64 k) es.toList 0 = some none) :
    (Instr.mapUpdate layT (.map (some b)) (.int .i64 k) f).run Try.prog w = .ok () (setBlock w b (.map (es.push ⟨.int .i64 k, f, clock⟩) (clock + 1))) := by
  simp [Instr.mapUpdate, run_underlying Try.underlying60, MapKept.run_getObj_map hb, run_checkKey_int, run_findKey_now _ _ _ _ hf, MapKept.run_setObj_map _ hb, Result.andThen, setBlock]
theorem wpList_insert {ops : Array Oper} {rest : List Oper} {o : Oper} {a : Act} {Q : Exit → Act → World → Prop} (w : World) (hgd : o.guard = none) (m k x : Operand) (ho : o.op = .insert layT m k x)
    (b : Nat) (es : Array MapEntry) (clock : Nat) (n : Int) (f : Value) (hm : a.eval m = .map (some b)) (hk : a.eval k = .int .i64 n) (hx : a.eval x = f) (hb : w.heap[b]? = some (.map es clock)) (hf : Instr.findNow (.int .i64) (.int .i64 n) es.toList 0 = some none)
    (hK : wpList Try.prog ops Q rest (a.put o.dst undef) (setBlock w b (.map (es.push ⟨.int .i64 n, f, clock⟩) (clock + 1)))) : wpList Try.prog ops Q (o :: rest) a w := by
  refine wpList_plain hgd fun K' hK' => ?_
  unfold Oper.wp
  simp [execOp, ho, hm, hk, hx, run_insert w b es clock n f hb hf, Result.andThen]
  exact hK' _ _ hK
theorem Q.setBlock {w w' : World} (h : Q w w') {b : Nat} (hb : w.heap.size ≤ b) (o : Obj) : Q w (setBlock w' b o) :=
  ⟨h.os, h.tape, h.output, Nat.le_trans h.size (by simp [ChangeMaps.setBlock]), fun i hi => by
    refine Eq.trans ?_ (h.block i hi)
    show (w'.heap.setIfInBounds b o)[i]? = w'.heap[i]?
    rw [Array.getElem?_setIfInBounds, if_neg (by omega)]⟩
theorem laying_any (w : World) : Calls Try.prog 26 #[] w fun e w' => e = .returned (.map (some w.heap.size)) ∧ w'.heap[w.heap.size]? = some (.map lay3 3) ∧ Q w w' := by
  have hmm := @run_makeMap Try.prog
  go_enter Try.func26, Try.ntmps26
  have e0 : (w.alloc (.map lay0 0)).heap[w.heap.size]? = some (.map lay0 0) := heap_alloc_new w _
  have e1 := ChangeMaps.heap_setBlock_same e0 (.map lay1 1)
  have e2 := ChangeMaps.heap_setBlock_same e1 (.map lay2 2)
  have e3 := ChangeMaps.heap_setBlock_same e2 (.map lay3 3)
  go_wp2_with (first
    | refine wpList_insert _ rfl _ _ _ rfl _ lay0 0 0 (fnV 36) rfl rfl rfl e0 rfl ?_
    | refine wpList_insert _ rfl _ _ _ rfl _ lay1 1 1 (fnV 37) rfl rfl rfl e1 rfl ?_
    | refine wpList_insert _ rfl _ _ _ rfl _ lay2 2 2 (fnV 36) rfl rfl rfl e2 rfl ?_)
  go_ret
  exact ⟨rfl, e3, (((((Q.refl w).alloc _).setBlock (Nat.le_refl _) _).setBlock (Nat.le_refl _) _).setBlock (Nat.le_refl _) _)⟩

/-- Which function lays by a state. -/
def layF (s : Int) : Nat := if s = 1 then 37 else 36
theorem lookup_hit (w : World) (b : Nat) (s : Int) (hb : w.heap[b]? = some (.map lay3 3)) (h0 : 0 ≤ s) (h2 : s ≤ 2) :
    (Instr.lookup layT (.map (some b)) (.int .i64 s) true).run Try.prog w = .ok (.tuple #[fnV (layF s), .bool true]) w := by
  have hf : ∃ i, Instr.findNow (.int .i64) (.int .i64 s) lay3.toList 0 = some (some (i, fnV (layF s))) := by
    rcases (show s = 0 ∨ s = 1 ∨ s = 2 by omega) with rfl | rfl | rfl
    · exact ⟨0, rfl⟩
    · exact ⟨1, rfl⟩
    · exact ⟨2, rfl⟩
  obtain ⟨i, hf⟩ := hf
  simp [Instr.lookup, run_underlying Try.underlying60, MapKept.run_getObj_map hb, run_checkKey_int, run_findKey_now _ _ _ _ hf, Result.andThen]
theorem zero_fn : ∃ z, ∀ w, (zeroValue 58).run Try.prog w = .ok z w := by
  have h : ((Try.prog.info? 58).bind (·.zero)).isSome = true := by kernel_rfl
  cases hi : Try.prog.info? 58 with
  | none => rw [hi] at h; simp at h
  | some i =>
    cases hz : i.zero with
    | none => rw [hi] at h; simp [hz] at h
    | some z => exact ⟨z, fun w => by simp [zeroValue, typeInfo, hi, hz]⟩
theorem lookup_miss (w : World) (b : Nat) (s : Int) (hb : w.heap[b]? = some (.map lay3 3)) (h : s < 0 ∨ 2 < s) :
    ∃ z, (Instr.lookup layT (.map (some b)) (.int .i64 s) true).run Try.prog w = .ok (.tuple #[z, .bool false]) w := by
  obtain ⟨z, hz⟩ := zero_fn
  have hf : Instr.findNow (.int .i64) (.int .i64 s) lay3.toList 0 = some none := by
    have a0 : (s == 0) = false := by simpa using (show ¬ s = 0 by omega)
    have a1 : (s == 1) = false := by simpa using (show ¬ s = 1 by omega)
    have a2 : (s == 2) = false := by simpa using (show ¬ s = 2 by omega)
    simp [lay3, lay2, lay1, lay0, Instr.findNow, Instr.sameNow, a0, a1, a2]
  refine ⟨z, ?_⟩
  simp [Instr.lookup, run_underlying Try.underlying60, MapKept.run_getObj_map hb, run_checkKey_int, run_findKey_now _ _ _ _ hf, hz, Result.andThen]
theorem wpList_lookup_run {ops : Array Oper} {rest : List Oper} {o : Oper} {a : Act} {Q : Exit → Act → World → Prop} (w : World) (hgd : o.guard = none) (m x : Operand) (ho : o.op = .lookup layT m x true)
    (vm vx v : Value) (hm : a.eval m = vm) (hx : a.eval x = vx) (hr : (Instr.lookup layT vm vx true).run Try.prog w = .ok v w)
    (hK : wpList Try.prog ops Q rest (a.put o.dst v) w) : wpList Try.prog ops Q (o :: rest) a w := by
  refine wpList_plain hgd fun K' hK' => ?_
  unfold Oper.wp
  simp [execOp, ho, hm, hx, hr, Result.andThen]
  exact hK' _ _ hK
/-- A slice of one version, as the call makes it. -/
theorem vers_one (w : World) (x : Ver) (hx : okV x) : Vers (w.alloc (.cells #[.int .u64 (x.id : Nat), .string x.data, .bool x.mark, .int .i64 x.tm] 25)) (w.alloc (.cells #[.int .u64 (x.id : Nat), .string x.data, .bool x.mark, .int .i64 x.tm] 25)).heap.size (.slice (some ⟨w.heap.size, 0, none⟩) 1 1) [x] := by
  refine ⟨_, _, rfl, Nat.le_refl _, (by simp), (by simpa using hx), fun k hk => ⟨_, rfl, by simp, ?_⟩⟩
  have hk0 : k = 0 := by simp at hk; omega
  subst hk0
  refine ⟨?_, ?_, ?_, ?_⟩ <;> simp [Addr.add, go_sem]
set_option maxHeartbeats 1000000 in
theorem ahead_any (l : List Ver) (v : Value) (x : Ver) (w : World) (hx : okV x) (hl : l.length ≤ 1000) (ht : Vers w w.heap.size v l) :
    Calls Try.prog 37 #[v, ver x] w fun e w' => ∃ v', e = .returned v' ∧ OwnV w.heap.size w' v' (x :: l) ∧ Q w w' := by
  obtain ⟨A, c, rfl⟩ := ht.shape
  have T := Lib.hid ht
  have HX := Lib.hid hx
  clear ht hx
  rw [ver]
  go_enter Try.func37, Try.ntmps37
  go_wp2_with fail
  have qa : Q w (((w.alloc (.cells #[.int .u64 (x.id : Nat), .string x.data, .bool x.mark, .int .i64 x.tm] 25)).alloc (.cells #[.int .u64 (x.id : Nat), .string x.data, .bool x.mark, .int .i64 x.tm] 25)).alloc (.cells #[.slice (some ⟨w.heap.size + 1, 0, none⟩) 1 1, .slice A l.length c] 64)) := (((Q.refl w).alloc _).alloc _).alloc _
  have t1 := vers_one (w.alloc (.cells #[.int .u64 (x.id : Nat), .string x.data, .bool x.mark, .int .i64 x.tm] 25)) x HX.out
  have t1 := t1.on ((Q.refl _).alloc (.cells #[.slice (some ⟨w.heap.size + 1, 0, none⟩) 1 1, .slice A l.length c] 64))
  rw [World.size_alloc w] at t1
  refine (concat_any _ (.slice (some ⟨w.heap.size + 1, 0, none⟩) 1 1) (.slice A l.length c) [x] l _ ?h1 ?h2 ?hg t1 (T.out.on qa) (by simp) hl).mono ?_
  case h1 => simp [go_sem]
  case h2 => simp [go_sem]
  case hg => simp
  rintro e w1 ⟨v', rfl, ho, q1⟩
  go_wp2
  go_ret
  exact ⟨_, rfl, OwnV.lower ho (Q.size qa), qa.trans q1⟩
end Go.Proofs.Ytflfhigldkdlmaa
