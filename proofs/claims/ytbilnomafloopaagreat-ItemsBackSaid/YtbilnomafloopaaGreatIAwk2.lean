/-
  The empty depot's one item; what the items of it, and no items, are put together to.
-/
import Derived.Test.YtbilnomafloopaaGreatIAwk
import Derived.Maps.RangeWalk
namespace Go.Proofs.YtbilnomafloopaaGreat
set_option maxRecDepth 100000
open Go.ChangeShapes Go.WideShapes Go.ChangeAt Go.RowKit
set_option linter.unusedVariables false
set_option linter.unusedSimpArgs false

def valT : ByteArray := mk (lst [mk (oct 0 8)])
def itT : Itm := ⟨⟨#[116]⟩, valT⟩
theorem valT_whl : whl valT = ([mk (oct 0 8)], 0) := by kernel_rfl
theorem zero_tn : (tn (mk (oct 0 8))).1 = 0 := by kernel_rfl
theorem valT_size : valT.size ≤ 1000 := of_decide_eq_true (by kernel_rfl)
theorem oct_size : (mk (oct 0 8)).size ≤ 100 := of_decide_eq_true (by kernel_rfl)
theorem itT_ok : okI itT := ⟨by unfold maxLen; exact of_decide_eq_true (by kernel_rfl), by have := valT_size; unfold maxLen; show valT.size ≤ _; omega⟩
theorem run_range_g {t k el : TypeId} (ht : Tryz.prog.underlying t = some (.map k el)) (w : World) (b : Nat) (es : Array MapEntry) (clock : Nat) (hb : w.heap[b]? = some (.map es clock)) :
    (Instr.range t (.map (some b))).run Tryz.prog w = .ok (.pointer (some ⟨w.heap.size, 0, none⟩)) (w.alloc (.mapIter (some b) clock #[] clock)) := by
  simp [Instr.range, run_underlying ht, MapKept.run_getObj_map hb, Result.andThen]
theorem wpList_range_g {t k el : TypeId} (ht : Tryz.prog.underlying t = some (.map k el)) {ops : Array Oper} {rest : List Oper} {o : Oper} {a : Act} {Q : Exit → Act → World → Prop} (w : World) (hgd : o.guard = none) (m : Operand) (ho : o.op = .range t m)
    (b : Nat) (es : Array MapEntry) (clock : Nat) (hm : a.eval m = .map (some b)) (hb : w.heap[b]? = some (.map es clock))
    (hK : wpList Tryz.prog ops Q rest (a.put o.dst (.pointer (some ⟨w.heap.size, 0, none⟩))) (w.alloc (.mapIter (some b) clock #[] clock))) : wpList Tryz.prog ops Q (o :: rest) a w := by
  refine wpList_plain hgd fun K' hK' => ?_
  unfold Oper.wp
  simp [execOp, ho, hm, run_range_g ht w b es clock hb, Result.andThen]
  exact hK' _ _ hK
set_option maxHeartbeats 4000000 in
theorem take0_any (w : World) (P pa pb pc pd : Nat) (hb : Bx w P 138 #[.int .i64 0, .map (some pa), .map (some pb), .map (some pc), .map (some pd)]) :
    Calls Tryz.prog 75 #[.pointer (some ⟨P, 0, none⟩), .agg #[.string ⟨#[116]⟩, .string valT]] w fun e w' => e = .returned (.tuple #[]) ∧ Bx w' P 138 #[.int .i64 0, .map (some pa), .map (some pb), .map (some pc), .map (some pd)] ∧ Kp P w w' := by
  have C1 := Lib.hid (fun x => whole_any valT x (by have := valT_size; omega))
  rw [valT_whl] at C1
  have C2 := Lib.hid (fun x => inum_any (mk (oct 0 8)) x (by have := oct_size; omega))
  rw [zero_tn] at C2
  have C3 := Lib.hid (fun x => cut0_any x)
  have q0 := (Q.refl w).alloc (.cells #[.string ⟨#[116]⟩, .string valT] 68)
  have n0 := Bx.new w 68 #[.string ⟨#[116]⟩, .string valT]
  have HB := Lib.hid hb
  obtain ⟨V, hV⟩ : ∃ V, V = valT := ⟨_, rfl⟩
  rw [← hV] at C1 q0 n0 ⊢
  clear hV hb
  have hx1 : (⟨#[116]⟩ : ByteArray).extract 0 1 = ⟨#[116]⟩ := by rfl
  have hx2 : (⟨#[116]⟩ : ByteArray).extract 1 1 = ⟨#[]⟩ := by rfl
  go_enter Tryz.func75, Tryz.ntmps75
  go_wp2_with fail
  refine (C1.out _).mono ?_
  rintro e w1 ⟨A, n, c, rfl, ht, q1⟩
  have n1 := n0.on q1
  have v0 := n1.cell 0
  have v1 := n1.cell 1
  simp only [List.getElem?_toArray, List.getElem?_cons_zero, List.getElem?_cons_succ] at v0 v1
  obtain ⟨A', c', e1, hc⟩ := ht
  injection e1 with e1 e2 e3
  subst e1 e2 e3
  obtain ⟨a, rfl, ha, hx⟩ := hc 0 (by simp)
  simp only [List.getElem_cons_zero, Nat.zero_mul] at hx
  have hx0 : w1.cell? a = some (.string (mk (oct 0 8))) := by have := hx; simpa [Addr.add] using this
  have HX := Lib.hid hx0
  have qq := q0.trans q1
  clear hc n0
  go_wp2_with fail
  go_region
  go_wp2_with fail
  refine (C3.out _).mono ?_
  rintro e w2 ⟨rfl, hw2⟩
  have q2 : Q w w2 := by rw [hw2]; exact qq.drew
  have hx3 : w2.cell? a = some (.string (mk (oct 0 8))) := by rw [hw2]; exact HX.out
  clear hw2 hx0 hx
  go_wp2_with fail
  refine (C2.out _).mono ?_
  rintro e w3 ⟨rfl, q3⟩
  have q4 := q2.trans q3
  have b3 := HB.out.on q4
  have f0 := b3.frozen 0
  have d0 := b3.cell 0
  simp only [List.getElem?_toArray, List.getElem?_cons_zero, List.getElem?_cons_succ] at d0
  have h00 : IntKind.i64.wrap (IntKind.u64.wrap 0) = 0 := by rfl
  go_wp2_with fail
  go_end0
  refine ⟨rfl, ?_, (Kp.of q4).set 0 _⟩
  have := b3.set 0 (.int .i64 0)
  simpa using this
end Go.Proofs.YtbilnomafloopaaGreat
