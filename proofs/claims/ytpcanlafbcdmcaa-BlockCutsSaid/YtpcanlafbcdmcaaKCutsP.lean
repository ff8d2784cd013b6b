/-
  For BlockCuts: rows of texts and numbers of the call's own that lie apart; what a cut leaves, as it is asked.
-/
import Derived.Test.YtpcanlafbcdmcaaKAwk
import Derived.Maps.AppendAt
namespace Go.Proofs.Ytpcanlafbcdmcaa
set_option maxRecDepth 100000
open Go.ChangeShapes Go.WideShapes Go.ChangeAt Go.RowKit
set_option linter.unusedVariables false
set_option linter.unusedSimpArgs false
set_option maxRecDepth 100000

theorem info_int : (Try.prog.info? 3).map (fun i => (i.zero, i.size, i.bytes)) = some (some (.int .i64 0), 1, 8) := by kernel_rfl
/-- A row of numbers of the call's own. -/
def OwnN (base : Nat) (w : World) (v : Value) (l : List Nat) : Prop := w.ownsRow base 3 1 v l.length (l.map fun n => Value.int .i64 (n : Nat))
theorem OwnN.nil (base : Nat) (w : World) : OwnN base w (.slice none 0 0) [] := World.ownsRow_nil w _ _ _
theorem OwnN.on {base : Nat} {w w' : World} {v : Value} {l : List Nat} (h : OwnN base w v l) (q : Q w w') : OwnN base w' v l := by
  rcases h.2 with ⟨rfl, h0⟩ | ⟨g, cap, cur, rfl, hb, hg, h1, h2, h3, h4⟩
  · exact ⟨h.1, .inl ⟨rfl, h0⟩⟩
  · exact ⟨h.1, .inr ⟨g, cap, cur, rfl, hb, (q.block g (lt_of_block hg)).trans hg, h1, h2, h3, h4⟩⟩
theorem OwnN.form {base : Nat} {w : World} {v : Value} {l : List Nat} (h : OwnN base w v l) : ∃ A c, v = .slice A l.length c ∧ ∀ i (hi : i < l.length), ∃ a, A = some a ∧ a.block < w.heap.size ∧ w.cell? (a.add i) = some (.int .i64 (l[i] : Nat)) := by
  rcases h.2 with ⟨rfl, h0⟩ | ⟨g, cap, cur, rfl, hb, hg, h1, h2, h3, h4⟩
  · exact ⟨none, 0, by rw [h0], fun i hi => absurd hi (by omega)⟩
  · exact ⟨_, _, rfl, fun i hi => ⟨_, rfl, lt_of_block hg, World.ownsRow.cells (g := g) h rfl i _ (by simp [hi])⟩⟩
/-- Two rows do not lie in one block. -/
def Two (v u : Value) : Prop := ∀ k, v.ownBlock = some k → u.ownBlock ≠ some k
theorem Two.symm {v u : Value} (h : Two v u) : Two u v := fun k e e2 => h k e2 e
theorem Two.nil (u : Value) : Two (.slice none 0 0) u := fun k e => by simp [Value.ownBlock] at e
/-- An append to one row leaves another one. -/
theorem two_step {b2 : Nat} {w w' : World} {v v' u : Value} {m : Nat} {f : TypeId} {ys : List Value} (hu : w.ownsRow b2 f 1 u m ys) (ht : Two v u)
    (hat : v'.ownBlock = v.ownBlock ∨ v'.ownBlock = some w.heap.size) (hg : w.grownBy w' v.ownBlock) : w'.ownsRow b2 f 1 u m ys ∧ Two v' u := by
  refine ⟨World.ownsRow.kept hu hg ?_, fun k e e2 => ?_⟩
  · cases e : u.ownBlock with
    | none => exact .inl rfl
    | some k => refine .inr fun e2 => ?_; exact ht k e2.symm e
  · rcases hat with h | h
    · exact ht k (by rw [← h]; exact e) e2
    · rw [h] at e; injection e with e; have := (World.ownsRow.lt hu k e2).2; omega
theorem OwnT.take {base : Nat} {w : World} {A : Option Addr} {n c : Nat} {l : List ByteArray} (h : OwnT base w (.slice A n c) l) {k : Nat} (hk : k ≤ l.length) (h0 : 0 < l.length) : w.ownsRow base 9 1 (.slice A k c) (l.take k).length ((l.take k).map Value.string) := by
  have hlen : (l.take k).length = k := by rw [List.length_take]; omega
  rcases h.2 with ⟨e, h0'⟩ | ⟨g, cap, cur, e, hb, hg, h1, h2, h3, h4⟩
  · omega
  · injection e with e1 e2 e3
    subst e1 e2 e3
    refine ⟨by simp, .inr ⟨g, c, cur, by rw [hlen], hb, hg, by omega, h2, h3, ?_⟩⟩
    rw [hlen, List.map_take, ← h4, Nat.mul_one, Nat.mul_one, List.take_take, Nat.min_eq_left (by omega)]
theorem OwnT.take' {base : Nat} {w : World} {a : Addr} {n c : Nat} {l : List ByteArray} (h : OwnT base w (.slice (some a) n c) l) {k : Nat} (hk : k ≤ l.length) : w.ownsRow base 9 1 (.slice (some a) k c) (l.take k).length ((l.take k).map Value.string) := by
  have hlen : (l.take k).length = k := by rw [List.length_take]; omega
  rcases h.2 with ⟨e, h0'⟩ | ⟨g, cap, cur, e, hb, hg, h1, h2, h3, h4⟩
  · injection e with e1; cases e1
  · injection e with e1 e2 e3
    injection e1 with e1
    subst e1 e2 e3
    refine ⟨by simp, .inr ⟨g, c, cur, by rw [hlen], hb, hg, by omega, h2, h3, ?_⟩⟩
    rw [hlen, List.map_take, ← h4, Nat.mul_one, Nat.mul_one, List.take_take, Nat.min_eq_left (by omega)]
/-- Where each record's blocks end. -/
def endsK (rs : List ByteArray) : List Nat := (List.range rs.length).map fun i => upK rs (i + 1)
theorem endsK_length (rs : List ByteArray) : (endsK rs).length = rs.length := by simp [endsK]
theorem endsK_get (rs : List ByteArray) (i : Nat) (h : i < (endsK rs).length) : (endsK rs)[i] = upK rs (i + 1) := by simp [endsK]
theorem endsK_nil : endsK [] = [] := rfl
theorem OwnN.ends {base : Nat} {w : World} {v : Value} {rs : List ByteArray} (h : OwnN base w v (endsK rs)) : ∃ A c, v = .slice A rs.length c ∧ ∀ i, i < rs.length → ∃ a, A = some a ∧ a.block < w.heap.size ∧ w.cell? (a.add i) = some (.int .i64 (upK rs (i + 1) : Nat)) := by
  obtain ⟨A, c, e, f⟩ := h.form
  refine ⟨A, c, by rw [e, endsK_length], fun i hi => ?_⟩
  obtain ⟨a, h1, h2, h3⟩ := f i (by rw [endsK_length]; exact hi)
  exact ⟨a, h1, h2, by rw [h3, endsK_get]⟩
theorem endsK_snoc (rs : List ByteArray) (s : ByteArray) : endsK (rs ++ [s]) = endsK rs ++ [((rs ++ [s]).flatMap layK).length] := by
  unfold endsK
  rw [List.length_append, List.length_singleton, List.range_succ, List.map_append, List.map_singleton]
  congr 1
  · apply List.map_congr_left
    intro i hi
    rw [List.mem_range] at hi
    unfold upK
    rw [List.take_append_of_le_length (by omega)]
  · unfold upK
    rw [List.take_of_length_le (by simp)]
theorem flat_snoc (rs : List ByteArray) (s : ByteArray) : (rs ++ [s]).flatMap layK = rs.flatMap layK ++ layK s := by
  rw [List.flatMap_append, List.flatMap_singleton]
theorem flat_le (rs : List ByteArray) : (rs.flatMap layK).length ≤ 201 * rs.length := by
  induction rs with
  | nil => exact Nat.le_refl _
  | cons s r ih => rw [List.flatMap_cons, List.length_append, layK_length, List.length_cons]; have := manyK_le s.size; omega
theorem flat_size (rs : List ByteArray) : ∀ b ∈ rs.flatMap layK, b.size = 64 := by
  intro b hb
  obtain ⟨s, -, hs⟩ := List.mem_flatMap.1 hb
  exact layK_size s b hs
theorem flat_63 (rs : List ByteArray) : ∀ b ∈ rs.flatMap layK, atK b 63 = 165 := by
  intro b hb
  obtain ⟨s, -, hs⟩ := List.mem_flatMap.1 hb
  obtain ⟨i, -, rfl⟩ := List.mem_map.1 hs
  exact at63_blk _ _
/-- What is scanned of what a cut leaves. -/
def CutP (rs : List ByteArray) (G : List ByteArray) (Wh : Nat) : Prop :=
  (∀ b ∈ G, b.size = 64) ∧ Wh ≤ G.length ∧ G.length ≤ 3000 ∧ ∀ i, i ≤ rs.length → upK rs i ≤ Wh → (i < rs.length → Wh < upK rs (i + 1)) → scanV G = (rs.take i, G.length - upK rs i, 0)
theorem CutP.len {rs G : List ByteArray} {Wh : Nat} (h : CutP rs G Wh) : Wh ≤ G.length ∧ G.length ≤ 3000 := ⟨h.2.1, h.2.2.1⟩
theorem CutP.use {rs G : List ByteArray} {Wh : Nat} (h : CutP rs G Wh) (i : Nat) (h1 : i ≤ rs.length) (h2 : upK rs i ≤ Wh) (h3 : i < rs.length → Wh < upK rs (i + 1)) : scanV G = (rs.take i, G.length - upK rs i, 0) := h.2.2.2 i h1 h2 h3
theorem cutP_plain (rs : List ByteArray) (hr : ∀ s ∈ rs, s.size ≤ 12000) (hl : rs.length ≤ 10) (k : Nat) (hk : k ≤ (rs.flatMap layK).length) : CutP rs ((rs.flatMap layK).take k) k := by
  have hlen : ((rs.flatMap layK).take k).length = k := by rw [List.length_take]; omega
  have hfl := flat_le rs
  refine ⟨fun b hb => flat_size rs b (List.mem_of_mem_take hb), by omega, by omega, fun i h1 h2 h3 => ?_⟩
  rw [hlen]
  exact scanV_of (fun b hb => flat_size rs b (List.mem_of_mem_take hb)) (cut_plain rs hr i k h1 h2 h3 hk)
theorem cutP_torn (rs : List ByteArray) (hr : ∀ s ∈ rs, s.size ≤ 12000) (hl : rs.length ≤ 10) (k : Nat) (hk : k < (rs.flatMap layK).length) {x : ByteArray} (hx : atK x 63 ≠ 165) (hz : x.size = 64) : CutP rs ((rs.flatMap layK).take k ++ [x]) k := by
  have hlen : ((rs.flatMap layK).take k ++ [x]).length = k + 1 := by rw [List.length_append, List.length_take, List.length_singleton]; omega
  have hfl := flat_le rs
  have hzz : ∀ b ∈ (rs.flatMap layK).take k ++ [x], b.size = 64 := fun b hb => by
    rcases List.mem_append.1 hb with hb | hb
    · exact flat_size rs b (List.mem_of_mem_take hb)
    · rw [List.mem_singleton.1 hb]; exact hz
  refine ⟨hzz, by omega, by omega, fun i h1 h2 h3 => ?_⟩
  rw [hlen]
  exact scanV_of hzz (cut_torn rs hr i k h1 h2 h3 hk hx)
theorem tornK_cat (y : ByteArray) (hy : y.size = 64) (n : Nat) (hn : n ≤ 64) : y.extract 0 n ++ (octsB 0 1).extract n 64 = tornK y n := by
  apply bl_inj
  rw [bl_append, bl_extract, bl_extract, tornK, bl_mk, octsB, bl_mk, List.drop_zero, Nat.sub_zero, List.drop_replicate, List.take_replicate]
  congr 2
  omega
/-- A torn block that is the block, or is none that was laid. -/
theorem torn_or (y : ByteArray) (hy : y.size = 64) (h63 : atK y 63 = 165) (n : Nat) (hn : n ≤ 64) : (tornK y n = y) ∨ (¬ tornK y n = y ∧ atK (tornK y n) 63 ≠ 165) := by
  by_cases h : n = 64
  · subst h; exact .inl (torn_all hy)
  · have := torn_63 hy (n := n) (by omega)
    refine .inr ⟨fun e => ?_, by omega⟩
    rw [e] at this; omega
end Go.Proofs.Ytpcanlafbcdmcaa
