/-
  append of a part as one operation of a region that draws.
-/
import Derived.Test.YtlahccmlnbdekaaULay
import Derived.Test.YtlahccmlnbdekaaUntil
namespace Go.Proofs.Ytlahccmlnbdekaa
open Go.ChangeShapes Go.WideShapes Go.ChangeAt Go.RowKit
set_option linter.unusedVariables false
set_option linter.unusedSimpArgs false
set_option maxRecDepth 100000

theorem wp_snoc_part {o : Oper} {a : Act} {K : Act → World → Prop} {Q : Exit → Act → World → Prop} (w : World) (s x : Operand) (t : TypeId)
    (htt : Try.prog.underlying t = some (.slice 25)) (ho : o.op = .call { callee := .builtin .append, args := #[s, x], argTypes := #[t, t] })
    (base g : Nat) (v : Value) (l : List Prt) (y : Prt) {c : Nat} (hs : a.eval s = v) (hx : a.eval x = .slice (some ⟨g, 0, none⟩) 1 c) (hgg : ∀ j u, (pcl y)[j]? = some u → w.cell? ((⟨g, 0, none⟩ : Addr).add j) = some u) (h : OwnP base w v l)
    (hb : base ≤ w.heap.size) (hl : l.length ≤ 4000)
    (k : ∀ v' w', OwnP base w' v' (l ++ [y]) → w.grownBy w' v.ownBlock → K (a.put o.dst v') w') : Oper.wp Try.prog o a w K Q := by
  obtain ⟨i0, hi0, hz0, hz1, hz2⟩ := info_parts info_part
  obtain ⟨v', w', h1, h2, h3, -⟩ := run_append_own (P := Try.prog) w base t o.type 25 i0 (.agg #[.int .i64 0, .string ⟨#[]⟩]) 2 24 htt hi0 hz0 hz1 hz2 rfl (by decide) v l.length (l.flatMap pcl) h ⟨g, 0, none⟩ 1 c (pcl y) rfl hgg (pcl_one y) (by unfold maxLen; omega) (by omega) hb
  unfold Oper.wp execOp
  simp only [ho, resolve, invoke, builtin, Sem.run_bind, Sem.run_pure, Result.andThen_ok, List.map_toArray, List.map_cons, List.map_nil, hs, hx, h1]
  exact k v' w' (OwnP.onto (M := [y]) (by simpa using h2) rfl) h3
end Go.Proofs.Ytlahccmlnbdekaa
