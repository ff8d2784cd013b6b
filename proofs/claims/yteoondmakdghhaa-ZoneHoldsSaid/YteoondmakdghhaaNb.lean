/-
  Zones: as values, as cells, as slices that are read, as rows that a call makes; devices that come in. Contracts of the document's Same of texts, and its Open, May and Same of devices. Contract of the document's May of devices.
-/
import Derived.Test.YteoondmakdghhaaNa
import Derived.Deep.Slices
import Derived.Deep.DeepCutAuto
namespace Go.Proofs.Yteoondmakdghhaa
set_option maxRecDepth 100000
open Go.ChangeShapes Go.WideShapes Go.ChangeAt Go.RowKit
set_option linter.unusedVariables false
set_option linter.unusedSimpArgs false
set_option maxRecDepth 100000
theorem Q.set {a b : World} {g k : Nat} (h : Q a b) (hg : a.heap.size ≤ g) (u : Value) : Q a (b.setCell ⟨g, k, none⟩ u) := Below.setCell h (p := ⟨g, k, none⟩) (by simpa using hg) u
/-- A slice of texts, with its room. -/
def Blks (w : World) (B : Nat) (v : Value) (l : List ByteArray) : Prop :=
  ∃ A c, v = .slice A l.length c ∧ l.length ≤ c ∧ (A = none → c = 0) ∧ ∀ k (h : k < l.length), ∃ a : Addr, A = some a ∧ a.block < B ∧ w.cell? (a.add k) = some (.string l[k])
theorem Blks.txts {w : World} {B : Nat} {v : Value} {l : List ByteArray} (h : Blks w B v l) : Txts w B v l := by
  obtain ⟨A, c, e, -, -, f⟩ := h; exact ⟨A, c, e, f⟩
theorem Blks.keep {w w' : World} {B : Nat} {v : Value} {l : List ByteArray} (h : Blks w B v l) (k : ∀ p : Addr, p.block < B → w'.cell? p = w.cell? p) : Blks w' B v l := by
  obtain ⟨A, c, e, e0, ez, f⟩ := h
  refine ⟨A, c, e, e0, ez, fun i hi => ?_⟩
  obtain ⟨a, e1, e2, e3⟩ := f i hi
  exact ⟨a, e1, e2, (k _ (by rw [add_block]; exact e2)).trans e3⟩
theorem Blks.below {w w' : World} {B : Nat} {v : Value} {l : List ByteArray} (h : Blks w B v l) (k : Below B w w') : Blks w' B v l := h.keep fun _ hp => k.cell hp
theorem Blks.more {w : World} {B B' : Nat} {v : Value} {l : List ByteArray} (h : Blks w B v l) (k : B ≤ B') : Blks w B' v l := by
  obtain ⟨A, c, e, e0, ez, f⟩ := h
  refine ⟨A, c, e, e0, ez, fun i hi => ?_⟩
  obtain ⟨a, e1, e2, e3⟩ := f i hi
  exact ⟨a, e1, by omega, e3⟩
theorem Blks.on {w w' : World} {v : Value} {l : List ByteArray} (h : Blks w w.heap.size v l) (k : Q w w') : Blks w' w'.heap.size v l := (h.below k).more k.size
theorem Blks.nil (w : World) (B : Nat) : Blks w B (.slice none 0 0) [] := ⟨none, 0, rfl, Nat.le_refl _, fun _ => rfl, fun k h => absurd h (by simp)⟩
theorem Blks.form {w : World} {B : Nat} {v : Value} {l : List ByteArray} (h : Blks w B v l) : ∃ A c, v = .slice A l.length c := by
  obtain ⟨A, c, e, -⟩ := h; exact ⟨A, c, e⟩
theorem Blks.cutTake {w : World} {B : Nat} {A : Option Addr} {n c : Nat} {l : List ByteArray} (h : Blks w B (.slice A n c) l) {i : Nat} (hi : i ≤ l.length) : Blks w B (.slice A i c) (l.take i) := by
  obtain ⟨A, c', e, e0, ez, f⟩ := h
  injection e with e1 e2 e3
  subst e1 e2 e3
  have hlen : (l.take i).length = i := by rw [List.length_take]; omega
  refine ⟨_, _, by rw [hlen], by omega, ez, fun k hk => ?_⟩
  obtain ⟨a', e1, e2, e3⟩ := f k (by omega)
  exact ⟨a', e1, e2, by rw [List.getElem_take]; exact e3⟩
/-- A row of texts of the call's own. -/
def OwnT (base : Nat) (w : World) (v : Value) (l : List ByteArray) : Prop := w.ownsRow base 9 1 v l.length (l.map Value.string)
theorem OwnT.nil (base : Nat) (w : World) : OwnT base w (.slice none 0 0) [] := World.ownsRow_nil w _ _ _
theorem OwnT.on {base : Nat} {w w' : World} {v : Value} {l : List ByteArray} (h : OwnT base w v l) (q : Q w w') : OwnT base w' v l := by
  rcases h.2 with ⟨rfl, h0⟩ | ⟨g, cap, cur, rfl, hb, hg, h1, h2, h3, h4⟩
  · exact ⟨h.1, .inl ⟨rfl, h0⟩⟩
  · exact ⟨h.1, .inr ⟨g, cap, cur, rfl, hb, (q.block g (lt_of_block hg)).trans hg, h1, h2, h3, h4⟩⟩
theorem OwnT.low {base b2 : Nat} {w : World} {v : Value} {l : List ByteArray} (h : OwnT base w v l) (k : b2 ≤ base) : OwnT b2 w v l := by
  rcases h.2 with ⟨rfl, h0⟩ | ⟨g, cap, cur, rfl, hb, r⟩
  · exact ⟨h.1, .inl ⟨rfl, h0⟩⟩
  · exact ⟨h.1, .inr ⟨g, cap, cur, rfl, by omega, r⟩⟩
theorem OwnT.form {base : Nat} {w : World} {v : Value} {l : List ByteArray} (h : OwnT base w v l) : ∃ A c, v = .slice A l.length c := by
  rcases h.2 with ⟨rfl, h0⟩ | ⟨g, cap, cur, rfl, -⟩
  · exact ⟨none, 0, by rw [h0]⟩
  · exact ⟨_, _, rfl⟩
theorem OwnT.read {base : Nat} {w : World} {v : Value} {l : List ByteArray} (h : OwnT base w v l) : Blks w w.heap.size v l := by
  rcases h.2 with ⟨rfl, h0⟩ | ⟨g, cap, cur, rfl, hb, hg, h1, h2, h3, h4⟩
  · rw [List.length_eq_zero_iff.1 h0]; exact Blks.nil _ _
  · refine ⟨_, _, rfl, h1, by simp, fun k hk => ⟨⟨g, 0, none⟩, rfl, lt_of_block hg, ?_⟩⟩
    exact h.cells (g := g) rfl k _ (by simp [hk])
/-- A zone lies at p; its blocks lie below block B. -/
def AtZ (w : World) (B : Nat) (p : Addr) (z : Zn) : Prop :=
  w.cell? ⟨p.block, p.off + 1, none⟩ = some (.int .i64 z.firm) ∧ w.cell? ⟨p.block, p.off + 2, none⟩ = some (.bool z.full) ∧ ∃ u, w.cell? p = some u ∧ Blks w B u z.b
def okZ (z : Zn) : Prop := z.b.length ≤ maxLen ∧ -9223372036854775808 ≤ z.firm ∧ z.firm ≤ 9223372036854775807
/-- A slice whose elements are these zones; all of it lies below block B. -/
def Zns (w : World) (B : Nat) (v : Value) (l : List Zn) : Prop :=
  ∃ A c, v = .slice A l.length c ∧ l.length ≤ c ∧ (A = none → c = 0) ∧ (∀ x ∈ l, okZ x) ∧ ∀ k (h : k < l.length), ∃ a : Addr, A = some a ∧ a.block < B ∧ AtZ w B (a.add (k * 3)) l[k]
theorem AtZ.below {w w' : World} {B : Nat} {p : Addr} {e : Zn} (h : AtZ w B p e) (hp : p.block < B) (k : Below B w w') : AtZ w' B p e := by
  obtain ⟨h1, h2, u, h3, h4⟩ := h
  exact ⟨(k.cell (p := ⟨p.block, p.off + 1, none⟩) hp).trans h1, (k.cell (p := ⟨p.block, p.off + 2, none⟩) hp).trans h2, u, (k.cell hp).trans h3, h4.below k⟩
theorem AtZ.more {w : World} {B B' : Nat} {p : Addr} {e : Zn} (h : AtZ w B p e) (k : B ≤ B') : AtZ w B' p e := by
  obtain ⟨h1, h2, u, h3, h4⟩ := h
  exact ⟨h1, h2, u, h3, h4.more k⟩
theorem Zns.below {w w' : World} {B : Nat} {v : Value} {l : List Zn} (h : Zns w B v l) (k : Below B w w') : Zns w' B v l := by
  obtain ⟨A, c, e, e0, ez, eo, f⟩ := h
  refine ⟨A, c, e, e0, ez, eo, fun i hi => ?_⟩
  obtain ⟨a, e1, e2, e3⟩ := f i hi
  exact ⟨a, e1, e2, e3.below (by rw [add_block]; exact e2) k⟩
theorem Zns.more {w : World} {B B' : Nat} {v : Value} {l : List Zn} (h : Zns w B v l) (k : B ≤ B') : Zns w B' v l := by
  obtain ⟨A, c, e, e0, ez, eo, f⟩ := h
  refine ⟨A, c, e, e0, ez, eo, fun i hi => ?_⟩
  obtain ⟨a, e1, e2, e3⟩ := f i hi
  exact ⟨a, e1, by omega, e3.more k⟩
theorem Zns.on {w w' : World} {v : Value} {l : List Zn} (h : Zns w w.heap.size v l) (k : Q w w') : Zns w' w'.heap.size v l := (h.below k).more k.size
theorem Zns.nil (w : World) (B : Nat) : Zns w B (.slice none 0 0) [] := ⟨none, 0, rfl, Nat.le_refl _, fun _ => rfl, by simp, fun k h => absurd h (by simp)⟩
theorem Zns.okAll {w : World} {B : Nat} {v : Value} {l : List Zn} (h : Zns w B v l) : ∀ x ∈ l, okZ x := by
  obtain ⟨A, c, e, e0, ez, eo, f⟩ := h; exact eo
theorem Zns.form {w : World} {B : Nat} {v : Value} {l : List Zn} (h : Zns w B v l) : ∃ A c, v = .slice A l.length c := by
  obtain ⟨A, c, e, -⟩ := h; exact ⟨A, c, e⟩
theorem Zns.cutTake {w : World} {B : Nat} {A : Option Addr} {n c : Nat} {l : List Zn} (h : Zns w B (.slice A n c) l) {i : Nat} (hi : i ≤ l.length) : Zns w B (.slice A i c) (l.take i) := by
  obtain ⟨A, c', e, e0, ez, eo, f⟩ := h
  injection e with e1 e2 e3
  subst e1 e2 e3
  have hlen : (l.take i).length = i := by rw [List.length_take]; omega
  refine ⟨_, _, by rw [hlen], by omega, ez, fun x hx => eo x (List.mem_of_mem_take hx), fun k hk => ?_⟩
  obtain ⟨a', e1, e2, e3⟩ := f k (by omega)
  exact ⟨a', e1, e2, by rw [List.getElem_take]; exact e3⟩
/-- One of a slice, as it lies in every later world. -/
theorem Zns.pick {w : World} {v : Value} {l : List Zn} (h : Zns w w.heap.size v l) (i : Nat) (hi : i < l.length) :
    ∃ (a : Addr) (c : Nat) (A : Option Addr) (n : Nat), v = .slice (some a) l.length c ∧ a.block < w.heap.size ∧ okZ l[i] ∧ ∀ d, Q w d → d.cell? (a.add (i * 3)) = some (.slice A l[i].b.length n) ∧ d.cell? ⟨(a.add (i * 3)).block, (a.add (i * 3)).off + 1, none⟩ = some (.int .i64 l[i].firm) ∧ d.cell? ⟨(a.add (i * 3)).block, (a.add (i * 3)).off + 2, none⟩ = some (.bool l[i].full) ∧ Blks d d.heap.size (.slice A l[i].b.length n) l[i].b := by
  obtain ⟨A, c, rfl, -, -, eo, f⟩ := h
  obtain ⟨a, rfl, ha, h1, h2, u, h3, h4⟩ := f i hi
  obtain ⟨A, n, rfl⟩ := h4.form
  exact ⟨a, c, A, n, rfl, ha, eo _ (List.getElem_mem hi), fun d q => ⟨(q.cell (by rw [add_block]; exact ha)).trans h3, (q.cell (p := ⟨(a.add (i * 3)).block, (a.add (i * 3)).off + 1, none⟩) (by show (a.add (i * 3)).block < _; rw [add_block]; exact ha)).trans h1, (q.cell (p := ⟨(a.add (i * 3)).block, (a.add (i * 3)).off + 2, none⟩) (by show (a.add (i * 3)).block < _; rw [add_block]; exact ha)).trans h2, h4.on q⟩⟩
theorem cells_zn : Try.prog.cellsOf 45 = 3 := by kernel_rfl
theorem info_zn : (Try.prog.info? 45).map (fun i => (i.zero, i.size, i.bytes)) = some (some (.agg #[.slice none 0 0, .int .i64 0, .bool false]), 3, 40) := by kernel_rfl
/-- What a row of zones is made of: each zone with the value of its blocks. -/
def zcl (p : Zn × Value) : List Value := [p.2, .int .i64 p.1.firm, .bool p.1.full]
theorem flat_zcl (P : List (Zn × Value)) : (P.flatMap zcl).length = P.length * 3 := by
  induction P with
  | nil => rfl
  | cons x r ih => rw [List.flatMap_cons, List.length_append, ih, List.length_cons, show (zcl x).length = 3 by rfl]; omega
theorem flat_atZ (P : List (Zn × Value)) (k : Nat) (h : k < P.length) {j : Nat} (hj : j < 3) : (P.flatMap zcl)[k * 3 + j]? = (zcl P[k])[j]? := by
  induction P generalizing k with
  | nil => simp at h
  | cons x r ih =>
    rw [List.flatMap_cons]
    cases k with
    | zero => rw [List.getElem?_append_left (by rw [show (zcl x).length = 3 by rfl]; omega)]; simp
    | succ k =>
      rw [List.getElem?_append_right (by rw [show (zcl x).length = 3 by rfl]; omega), show (k + 1) * 3 + j - (zcl x).length = k * 3 + j by rw [show (zcl x).length = 3 by rfl]; omega, ih k (by simpa using h)]
      rfl
theorem zcl_one {p : Zn × Value} (h : ∃ A n c, p.2 = .slice A n c) : ∀ u ∈ zcl p, u.oneCell' = true := by
  intro u hu
  obtain ⟨A, n, c, e⟩ := h
  simp [zcl] at hu
  rcases hu with rfl | rfl | rfl
  · rw [e]; rfl
  · rfl
  · rfl
/-- A list of blocks that lies below base, or is a row of the call's own, from base on. -/
def AptZ (base : Nat) (w : World) (u : Value) (L : List ByteArray) : Prop := Blks w base u L ∨ OwnT base w u L
theorem AptZ.blks {base : Nat} {w : World} {u : Value} {L : List ByteArray} (h : AptZ base w u L) (hb : base ≤ w.heap.size) : Blks w w.heap.size u L := by
  rcases h with h | h
  · exact h.more hb
  · exact h.read
theorem AptZ.on {base : Nat} {w w' : World} {u : Value} {L : List ByteArray} (h : AptZ base w u L) (q : Q w w') (hb : base ≤ w.heap.size) : AptZ base w' u L := by
  rcases h with h | h
  · exact .inl (h.below (Below.mono q hb))
  · exact .inr (h.on q)
theorem AptZ.shape {base : Nat} {w : World} {u : Value} {L : List ByteArray} (h : AptZ base w u L) : ∃ A n c, u = .slice A n c := by
  rcases h with h | h
  · obtain ⟨A, c, e⟩ := h.form; exact ⟨A, _, c, e⟩
  · obtain ⟨A, c, e⟩ := h.form; exact ⟨A, _, c, e⟩
/-- v is a row of the call's own, from block base on, of these zones. -/
def RowZ (base : Nat) (w : World) (v : Value) (P : List (Zn × Value)) : Prop := w.ownsRow base 45 3 v P.length (P.flatMap zcl)
theorem RowZ.on {base : Nat} {w w' : World} {v : Value} {P : List (Zn × Value)} (h : RowZ base w v P) (q : Q w w') : RowZ base w' v P := by
  rcases h.2 with ⟨rfl, h0⟩ | ⟨g, cap, cur, rfl, hb, hg, h1, h2, h3, h4⟩
  · exact ⟨h.1, .inl ⟨rfl, h0⟩⟩
  · exact ⟨h.1, .inr ⟨g, cap, cur, rfl, hb, (q.block g (lt_of_block hg)).trans hg, h1, h2, h3, h4⟩⟩
theorem AptZ.grown {base : Nat} {w w' : World} {v u : Value} {P : List (Zn × Value)} {L : List ByteArray} (h : AptZ base w u L) (r : RowZ base w v P) (g : w.grownBy w' v.ownBlock) (hb : base ≤ w.heap.size) : AptZ base w' u L := by
  rcases h with h2 | h2
  · refine .inl (h2.keep fun p hp => World.cell?_of_block (g.block p.block (by omega) fun e => ?_))
    have := (World.ownsRow.lt r p.block e.symm).1
    omega
  · refine .inr (World.ownsRow.kept h2 g ?_)
    rcases h2.2 with ⟨rfl, -⟩ | ⟨k, cap, cur, rfl, -, hk, -⟩
    · exact .inl rfl
    · refine .inr fun e => ?_
      rcases r.2 with ⟨rfl, -⟩ | ⟨k', cap', cur', rfl, -, hk', -⟩
      · simp [Value.ownBlock] at e
      · simp [Value.ownBlock] at e
        subst e
        rw [hk] at hk'
        injection hk' with hk'
        injection hk' with e1 e2
        exact absurd e2 (by decide)
/-- A row of zones, all of them as they are. -/
def OwnZ (base : Nat) (w : World) (v : Value) (l : List Zn) : Prop := ∃ P : List (Zn × Value), P.map (·.1) = l ∧ RowZ base w v P ∧ ∀ p ∈ P, okZ p.1 ∧ AptZ base w p.2 p.1.b
theorem OwnZ.nil (base : Nat) (w : World) : OwnZ base w (.slice none 0 0) [] := ⟨[], rfl, World.ownsRow_nil w _ _ _, by simp⟩
theorem OwnZ.on {base : Nat} {w w' : World} {v : Value} {l : List Zn} (h : OwnZ base w v l) (q : Q w w') (hb : base ≤ w.heap.size) : OwnZ base w' v l := by
  obtain ⟨P, e, r, f⟩ := h
  exact ⟨P, e, r.on q, fun p hp => ⟨(f p hp).1, (f p hp).2.on q hb⟩⟩
theorem OwnZ.form {base : Nat} {w : World} {v : Value} {l : List Zn} (h : OwnZ base w v l) : ∃ A c, v = .slice A l.length c := by
  obtain ⟨P, rfl, r, -⟩ := h
  rw [List.length_map]
  rcases r.2 with ⟨rfl, h0⟩ | ⟨g, cap, cur, rfl, -⟩
  · exact ⟨none, 0, by rw [h0]⟩
  · exact ⟨_, _, rfl⟩
theorem OwnZ.lt {base : Nat} {w : World} {v : Value} {l : List Zn} (h : OwnZ base w v l) : ∀ k, v.ownBlock = some k → base ≤ k ∧ k < w.heap.size := by
  obtain ⟨P, rfl, r, -⟩ := h
  exact World.ownsRow.lt r
theorem OwnZ.zns {base : Nat} {w : World} {v : Value} {l : List Zn} (h : OwnZ base w v l) (hb : base ≤ w.heap.size) : Zns w w.heap.size v l := by
  obtain ⟨P, rfl, r, f⟩ := h
  have ok : ∀ x ∈ P.map (·.1), okZ x := by
    intro x hx
    obtain ⟨p, hp, rfl⟩ := List.mem_map.1 hx
    exact (f p hp).1
  rcases r.2 with ⟨rfl, h0⟩ | ⟨g, cap, cur, rfl, hbg, hg, h1, h2, h3, h4⟩
  · rw [List.length_eq_zero_iff.1 h0]; exact Zns.nil _ _
  · refine ⟨some ⟨g, 0, none⟩, cap, by rw [List.length_map], by rw [List.length_map]; exact h1, (by simp), ok, fun k hk => ⟨⟨g, 0, none⟩, rfl, lt_of_block hg, ?_⟩⟩
    rw [List.length_map] at hk
    have hc : ∀ j, j < 3 → w.cell? ((⟨g, 0, none⟩ : Addr).add (k * 3 + j)) = (zcl P[k])[j]? := by
      intro j hj
      have := flat_atZ P k hk hj
      obtain ⟨u, hu⟩ : ∃ u, (zcl P[k])[j]? = some u := ⟨_, List.getElem?_eq_getElem (by rw [show (zcl P[k]).length = 3 by rfl]; exact hj)⟩
      rw [hu] at this ⊢
      exact World.ownsRow.cells r (g := g) rfl _ _ this
    have ha : ∀ j, 0 < j → (⟨g, 0, none⟩ : Addr).add (k * 3 + j) = ⟨((⟨g, 0, none⟩ : Addr).add (k * 3)).block, ((⟨g, 0, none⟩ : Addr).add (k * 3)).off + j, none⟩ := by
      intro j hj
      rw [add_pos _ (by omega), add_block]
      unfold Addr.add
      split
      · rename_i h0; simp [h0]
      · simp [Nat.add_assoc]
    rw [List.getElem_map]
    refine ⟨?_, ?_, P[k].2, hc 0 (by omega), (f _ (List.getElem_mem hk)).2.blks hb⟩
    · rw [← ha 1 (by omega)]; exact hc 1 (by omega)
    · rw [← ha 2 (by omega)]; exact hc 2 (by omega)
theorem RowZ.onto {base k : Nat} {w2 : World} {v2 : Value} {P R : List (Zn × Value)} (h1 : w2.ownsRow base 45 3 v2 (P.length + k) (P.flatMap zcl ++ R.flatMap zcl)) (hk : k = R.length) : RowZ base w2 v2 (P ++ R) := by
  subst hk
  unfold RowZ
  rw [List.flatMap_append, List.length_append]
  exact h1
theorem cells_oneZ (w : World) (p : Zn × Value) (t : TypeId) : ∀ j u, (zcl p)[j]? = some u → (w.alloc (.cells #[p.2, .int .i64 p.1.firm, .bool p.1.full] t)).cell? ((⟨w.heap.size, 0, none⟩ : Addr).add j) = some u := by
  intro j u hj
  obtain ⟨hj2, rfl⟩ := List.getElem?_eq_some_iff.1 hj
  match j, hj2 with
  | 0, _ => simp [Addr.add, zcl]
  | 1, _ => simp [Addr.add, zcl]
  | 2, _ => simp [Addr.add, zcl]
/-- A device, as a value, and as its cells. -/
def dvV (d : Dv) (u : Value) : Value := .agg #[u, .int .i64 d.size, .int .i64 d.mo, .int .i64 d.fuel, .bool d.off, .int .i64 d.bad]
def okI64 (n : Int) : Prop := -9223372036854775808 ≤ n ∧ n ≤ 9223372036854775807
def okD (d : Dv) : Prop := d.zs.length ≤ maxLen ∧ okI64 d.size ∧ okI64 d.mo ∧ okI64 d.fuel ∧ okI64 d.bad
theorem blks_cell {H : Type} {enc : TypeId × Value → H} {W : World} {n : Nat} {v : Value} {y : DataW H × List MemPlace}
    (hf : DataW.trod enc Try.prog W 0 (fun _ => true) true n 31 [v] = some y) : ∃ l : List ByteArray, Blks W W.heap.size v l ∧ l.length ≤ maxLen := by
  rcases Deep.open_slice Try.underlying31 hf with ⟨hcs, hx⟩ | ⟨a, len', cap', m, n, D, Pl, hcs, _, hl, hm, hmm, hx, hel⟩
  · simp at hcs
    subst hcs
    exact ⟨[], Blks.nil _ _, by simp⟩
  · simp at hcs
    subst hcs
    have c0 : Try.prog.cellsOf 9 = 1 := by kernel_rfl
    have each : ∀ i, i < len' → ∃ x : ByteArray, W.cell? (a.add i) = some (.string x) := by
      intro i hi
      obtain ⟨cs', h1, h2⟩ := hel i (by rw [hmm]; simp; omega)
      rw [c0] at h1
      obtain ⟨-, hlen1, hcell⟩ := World.cells?_some h1
      obtain ⟨s, e, -, ws⟩ := DataW.trod_string Try.underlying9 h2
      subst e
      refine ⟨s, ?_⟩
      have h0 : (a.add i).add 0 = a.add i := by simp [Addr.add]
      have := hcell 0 (by omega)
      rw [Nat.mul_one, h0] at this
      exact this
    obtain ⟨l, hlen, hp⟩ := list_of len' each
    refine ⟨l, ⟨some a, cap', by rw [hlen], by omega, (by simp), fun k hk => ⟨a, rfl, ?_, hp k hk⟩⟩, by omega⟩
    have := World.block_lt_of_cell? W _ (hp k hk)
    rw [add_block] at this; exact this
theorem trod_zn {H : Type} {enc : TypeId × Value → H} {W : World} {n : Nat} {cs : List Value} {y : DataW H × List MemPlace} (hl : cs.length = 3)
    (hf : DataW.trod enc Try.prog W 0 (fun _ => true) true n 45 cs = some y) :
    ∃ (z : Zn) (u : Value), cs = [u, .int .i64 z.firm, .bool z.full] ∧ okZ z ∧ Blks W W.heap.size u z.b := by
  obtain ⟨v0, v1, v2, rfl⟩ : ∃ a b c, cs = [a, b, c] := by
    match cs, hl with
    | [a, b, c], _ => exact ⟨a, b, c, rfl⟩
  obtain ⟨xs, n', _, _, hl0, hlen, hg⟩ := DataW.trod_struct Try.underlying45 hf
  have hlen3 : xs.length = 3 := hlen
  have c0 : Try.prog.cellsOf 31 = 1 := by kernel_rfl
  have c1 : Try.prog.cellsOf 3 = 1 := by kernel_rfl
  have c2 : Try.prog.cellsOf 4 = 1 := by kernel_rfl
  have g0 := hg 0 _ rfl
  have g1 := hg 1 _ rfl
  have g2 := hg 2 _ rfl
  rw [List.getElem?_eq_getElem (by omega)] at g0 g1 g2
  simp [c0, c1, c2] at g0 g1 g2
  obtain ⟨b, hb, mb⟩ := blks_cell g0
  obtain ⟨s1, e1, -, w1⟩ := DataW.trod_int Try.underlying3 g1
  obtain ⟨s2, e2, -⟩ := DataW.trod_bool Try.underlying4 g2
  simp at e1 e2
  subst e1 e2
  exact ⟨⟨b, s1, s2⟩, v0, rfl, ⟨mb, (wf64 w1).1, (wf64 w1).2⟩, hb⟩
theorem zns_cell {H : Type} {enc : TypeId × Value → H} {W : World} {n : Nat} {v : Value} {y : DataW H × List MemPlace}
    (hf : DataW.trod enc Try.prog W 0 (fun _ => true) true n 22 [v] = some y) : ∃ l : List Zn, Zns W W.heap.size v l ∧ l.length ≤ maxLen := by
  rcases Deep.open_slice Try.underlying22 hf with ⟨hcs, hx⟩ | ⟨a, len', cap', m, n, D, Pl, hcs, _, hl, hm, hmm, hx, hel⟩
  · simp at hcs
    subst hcs
    exact ⟨[], Zns.nil _ _, by simp⟩
  · simp at hcs
    subst hcs
    have each : ∀ i, i < len' → ∃ x : Zn, okZ x ∧ AtZ W W.heap.size (a.add (i * 3)) x := by
      intro i hi
      obtain ⟨cs', h1, h2⟩ := hel i (by rw [hmm]; simp; omega)
      rw [cells_zn] at h1
      obtain ⟨-, hlen3, hcell⟩ := World.cells?_some h1
      obtain ⟨z, u, rfl, ok, hu⟩ := trod_zn hlen3 h2
      exact ⟨z, ok, (congrArg W.cell? (add_pos _ (by omega : 0 < 1)).symm).trans (hcell 1 (by omega)), (congrArg W.cell? (add_pos _ (by omega : 0 < 2)).symm).trans (hcell 2 (by omega)), u, hcell 0 (by omega), hu⟩
    obtain ⟨l, hlen, hp⟩ := list_of len' each
    refine ⟨l, ⟨some a, cap', by rw [hlen], by omega, (by simp), ?_, fun k hk => ⟨a, rfl, ?_, (hp k hk).2⟩⟩, by omega⟩
    · intro x hx
      obtain ⟨k, hk, rfl⟩ := List.getElem_of_mem hx
      exact (hp k hk).1
    · have := World.block_lt_of_cell? W _ (hp k hk).2.1
      simpa [add_block] using this
end Go.Proofs.Yteoondmakdghhaa

namespace Go.Proofs.Yteoondmakdghhaa
set_option maxRecDepth 100000
open Go.ChangeShapes Go.WideShapes Go.ChangeAt Go.RowKit
set_option linter.unusedVariables false
set_option linter.unusedSimpArgs false
set_option maxRecDepth 100000
def SameTo (a b : List ByteArray) (k : Nat) : Prop := a.take k = b.take k
theorem same_step {a b : List ByteArray} {k : Nat} (ha : k < a.length) (hb : k < b.length) (h : SameTo a b k) (e : a[k] = b[k]) : SameTo a b (k + 1) := by
  unfold SameTo at h ⊢
  rw [List.take_succ_eq_append_getElem ha, List.take_succ_eq_append_getElem hb, h, e]
theorem same_end {a b : List ByteArray} (h : a.length = b.length) (q : SameTo a b a.length) : decide (a = b) = true := by
  unfold SameTo at q
  rw [List.take_length] at q
  conv at q => rhs; rw [h, List.take_length]
  simp [q]
theorem same_not {a b : List ByteArray} {k : Nat} (ha : k < a.length) (hb : k < b.length) (e : ¬ a[k] = b[k]) : decide (a = b) = false := by
  have : ¬ a = b := by rintro rfl; exact e rfl
  simp [this]
set_option maxHeartbeats 1000000 in
theorem same_any (a b : List ByteArray) (va vb : Value) (w : World) (hl : a.length ≤ 1000000) (hl2 : b.length ≤ 1000000) (ha : Txts w w.heap.size va a) (hb : Txts w w.heap.size vb b) :
    Calls Try.prog 19 #[va, vb] w fun e w' => e = .returned (.bool (decide (a = b))) ∧ Q w w' := by
  obtain ⟨A, c, rfl, hca⟩ := ha
  obtain ⟨B, d, rfl, hcb⟩ := hb
  have HA := Lib.hid hca; have HB := Lib.hid hcb
  clear hca hcb
  by_cases hlen : a.length = b.length
  · have HL := Lib.hid hlen
    obtain ⟨n, hn⟩ : ∃ n, n = a.length := ⟨_, rfl⟩
    have hm : n = b.length := hn.trans hlen
    rw [← hn] at hl
    rw [← hm] at hl2
    rw [← hn, ← hm]
    have HN := Lib.hid hn; have HM := Lib.hid hm
    clear hn hm hlen
    go_enter Try.func19, Try.ntmps19
    go_wp2_with fail
    go_loopw [5] (fun i wr => ∃ k : Nat, k ≤ n ∧ i = .int .i64 k ∧ Hid (SameTo a b k) ∧ Q w wr) (fun i _ => n - (intOf i).toNat)
    case atStart => exact ⟨0, Nat.zero_le _, rfl, Lib.hid (by simp [SameTo]), Q.refl _⟩
    case round =>
      obtain ⟨k, hk, rfl, HS, q⟩ := hrel
      by_cases hlt : k < n
      · have pa : k < a.length := by rw [← HN.out]; exact hlt
        have pb : k < b.length := by rw [← HM.out]; exact hlt
        obtain ⟨x, rfl, hx1, hx2⟩ := HA.out k pa
        obtain ⟨y, rfl, hy1, hy2⟩ := HB.out k pb
        have cx := (Below.cell q (p := x.add k) (by rw [add_block]; exact hx1)).trans hx2
        have cy := (Below.cell q (p := y.add k) (by rw [add_block]; exact hy1)).trans hy2
        clear hx2 hy2
        obtain ⟨s, hs⟩ : ∃ s, s = a[k] := ⟨_, rfl⟩
        obtain ⟨t, ht⟩ : ∃ t, t = b[k] := ⟨_, rfl⟩
        rw [← hs] at cx
        rw [← ht] at cy
        have H1 := Lib.hid hs; have H2 := Lib.hid ht
        clear hs ht
        have he := eq_texts s t
        by_cases hst : s = t
        · have h1 : (s.toList == t.toList) = true := by rw [he]; simpa using hst
          have HE := Lib.hid hst
          clear he hst
          go_wp2_with fail
          go_region
          go_wp2
          go_roundw
          case rel => exact ⟨k + 1, by omega, by go_num, Lib.hid (same_step pa pb HS.out (by rw [← H1.out, ← H2.out]; exact HE.out)), q.drew⟩
          case measure => simp [intOf]; omega
        · have h1 : (s.toList == t.toList) = false := by rw [he]; simpa using hst
          clear he
          have HV := Lib.hid (same_not pa pb (by rw [← H1.out, ← H2.out]; exact hst))
          go_wp2_with fail
          go_region
          go_wp2
          go_ret
          exact ⟨by rw [HV.out]; rfl, q.drew⟩
      · obtain rfl : k = n := by omega
        have HV := Lib.hid (same_end HL.out (by rw [← HN.out]; exact HS.out))
        go_wp2
        go_ret
        exact ⟨by rw [HV.out]; rfl, q⟩
  · have HV : Hid (decide (a = b) = false) := Lib.hid (by
      have : ¬ a = b := by rintro rfl; exact hlen rfl
      simp [this])
    go_enter Try.func19, Try.ntmps19
    go_wp2
    go_ret
    exact ⟨by rw [HV.out]; rfl, Q.refl _⟩
theorem openN_take (l : List Zn) (i : Nat) (h : i < l.length) : openN (l.take (i + 1)) = openN (l.take i) + (if isOpen l[i] = true then 1 else 0) := by
  unfold openN
  rw [List.take_succ_eq_append_getElem h, List.filter_append, List.length_append]
  by_cases q : isOpen l[i] = true <;> simp [q]
set_option maxHeartbeats 4000000 in
theorem rOpen_any (d : Dv) (u : Value) (w : World) (hl : d.zs.length ≤ 100000) (ht : Zns w w.heap.size u d.zs) :
    Calls Try.prog 17 #[dvV d u] w fun e w' => e = .returned (.int .i64 (openN d.zs : Nat)) ∧ Q w w' := by
  obtain ⟨A0, c0, rfl⟩ := ht.form
  have HT := Lib.hid ht
  clear ht
  obtain ⟨zs, size, mo, fuel, off, bad⟩ := d
  rw [dvV]
  simp only at HT hl ⊢
  have bx := Bx.new w 24 #[.slice A0 zs.length c0, .int .i64 size, .int .i64 mo, .int .i64 fuel, .bool off, .int .i64 bad]
  have q0 := (Q.refl w).alloc (.cells #[.slice A0 zs.length c0, .int .i64 size, .int .i64 mo, .int .i64 fuel, .bool off, .int .i64 bad] 24)
  obtain ⟨W0, hW0⟩ : ∃ z, z = w.alloc (.cells #[.slice A0 zs.length c0, .int .i64 size, .int .i64 mo, .int .i64 fuel, .bool off, .int .i64 bad] 24) := ⟨_, rfl⟩
  rw [← hW0] at bx q0
  have BX := Lib.hid bx
  have Q0 := Lib.hid q0
  clear bx q0
  go_enter Try.func17, Try.ntmps17
  go_wp2_with fail
  rw [← hW0]
  clear hW0
  go_loopw [3, 4] (fun N I wr => ∃ i m : Nat, i ≤ zs.length ∧ I = .int .i64 i ∧ N = .int .i64 m ∧ Hid (m = openN (zs.take i)) ∧ m ≤ i ∧ Q W0 wr) (fun _ I _ => zs.length - (intOf I).toNat)
  case atStart => exact ⟨0, 0, Nat.zero_le _, rfl, rfl, Lib.hid rfl, Nat.le_refl _, Q.refl _⟩
  case round =>
    obtain ⟨i, m, hil, rfl, rfl, HM, hmi, q⟩ := hrel
    have b0 : wr.cell? ⟨w.heap.size, 0, none⟩ = some (.slice A0 zs.length c0) := (BX.out.on q).cell 0
    by_cases hlt : i < zs.length
    · obtain ⟨a, c1, A1, n1, e1, ha, -, hat⟩ := HT.out.pick i hlt
      injection e1 with e1 e2 e3
      subst e1 e3
      obtain ⟨z0, z1, z2, -⟩ := hat wr (Q0.out.trans q)
      have HS := Lib.hid (openN_take zs i hlt)
      obtain ⟨y, hy⟩ : ∃ y, y = zs[i] := ⟨_, rfl⟩
      rw [← hy] at z0 z1 z2 HS
      clear hat hy
      have hilt : (i : Int) < (zs.length : Int) := by omega
      by_cases hp : 0 < y.b.length
      · have hp' : (0 : Int) < (y.b.length : Int) := by omega
        cases hf : y.full with
        | true =>
          have HN : Hid (m = openN (zs.take (i + 1))) := Lib.hid (by rw [HS.out, ← HM.out]; simp [isOpen, hf])
          rw [hf] at z2
          clear hf hp HS
          go_wp2_with fail
          go_roundw
          case rel => exact ⟨i + 1, m, by omega, by go_num, rfl, HN, by omega, q⟩
          case measure => simp [intOf]; omega
        | false =>
          have HN : Hid (m + 1 = openN (zs.take (i + 1))) := Lib.hid (by rw [HS.out, ← HM.out]; simp [isOpen, hf, hp])
          rw [hf] at z2
          clear hf hp HS
          go_wp2_with fail
          go_roundw
          case rel => exact ⟨i + 1, m + 1, by omega, by go_num, by go_num, HN, by omega, q⟩
          case measure => simp [intOf]; omega
      · have hp' : ¬ (0 : Int) < (y.b.length : Int) := by omega
        have HN : Hid (m = openN (zs.take (i + 1))) := Lib.hid (by rw [HS.out, ← HM.out]; simp [isOpen, hp])
        clear hp HS
        go_wp2_with fail
        go_roundw
        case rel => exact ⟨i + 1, m, by omega, by go_num, rfl, HN, by omega, q⟩
        case measure => simp [intOf]; omega
    · have h2 : ¬ (i : Int) < (zs.length : Int) := by omega
      have HN : Hid (m = openN zs) := Lib.hid (by rw [HM.out, List.take_of_length_le (by omega)])
      go_wp2_with fail
      go_ret
      exact ⟨by rw [← HN.out]; rfl, Q0.out.trans q⟩
end Go.Proofs.Yteoondmakdghhaa

namespace Go.Proofs.Yteoondmakdghhaa
set_option maxRecDepth 100000
open Go.ChangeShapes Go.WideShapes Go.ChangeAt Go.RowKit
set_option linter.unusedVariables false
set_option linter.unusedSimpArgs false
set_option maxRecDepth 100000
/-- What is asked of a device but of its zones. -/
def headD (d : Dv) : Bool := decide (1 ≤ d.zs.length) && (decide (d.zs.length ≤ 40) && (decide (1 ≤ d.size) && (decide (d.size ≤ 300) && (decide (1 ≤ d.mo) && (decide (-1 ≤ d.fuel) && decide (0 ≤ d.bad))))))
theorem mayD_head (d : Dv) : mayD d = (headD d && d.zs.all (okZn d.size) && decide ((openN d.zs : Int) ≤ d.mo)) := by
  unfold mayD headD; simp [Bool.and_assoc]
def sz64 (s : ByteArray) : Bool := decide (s.size = 64)
theorem all_take {α : Type} (f : α → Bool) (l : List α) (i : Nat) (h : i < l.length) : (l.take (i + 1)).all f = ((l.take i).all f && f l[i]) := by
  rw [List.take_succ_eq_append_getElem h, List.all_append]; simp
def frontZ (n : Int) (z : Zn) : Bool := decide ((z.b.length : Int) ≤ n) && (decide (0 ≤ z.firm) && decide (z.firm ≤ z.b.length))
theorem okZn_front (n : Int) (z : Zn) : okZn n z = (frontZ n z && z.b.all sz64 && ((!decide ((z.b.length : Int) = n) || z.full) && (!decide (z.b.length = 0) || !z.full))) := by
  unfold okZn frontZ sz64; simp [Bool.and_assoc]
set_option maxHeartbeats 16000000 in
theorem rMay_any (d : Dv) (u : Value) (w : World) (hl : d.zs.length ≤ 100000) (ht : Zns w w.heap.size u d.zs) :
    Calls Try.prog 16 #[dvV d u] w fun e w' => e = .returned (.bool (mayD d)) ∧ Q w w' := by
  obtain ⟨A0, c0, rfl⟩ := ht.form
  have HT := Lib.hid ht
  clear ht
  have HM := Lib.hid (mayD_head d)
  have HH : Hid (headD d = (decide (1 ≤ d.zs.length) && (decide (d.zs.length ≤ 40) && (decide (1 ≤ d.size) && (decide (d.size ≤ 300) && (decide (1 ≤ d.mo) && (decide (-1 ≤ d.fuel) && decide (0 ≤ d.bad)))))))) := Lib.hid rfl
  obtain ⟨G0, hG0⟩ : ∃ b, b = headD d := ⟨_, rfl⟩
  rw [← hG0] at HM HH
  clear hG0
  obtain ⟨zs, size, mo, fuel, off, bad⟩ := d
  rw [dvV]
  simp only at HT hl HM HH ⊢
  have bx := Bx.new w 24 #[.slice A0 zs.length c0, .int .i64 size, .int .i64 mo, .int .i64 fuel, .bool off, .int .i64 bad]
  have q0 := (Q.refl w).alloc (.cells #[.slice A0 zs.length c0, .int .i64 size, .int .i64 mo, .int .i64 fuel, .bool off, .int .i64 bad] 24)
  obtain ⟨W0, hW0⟩ : ∃ z, z = w.alloc (.cells #[.slice A0 zs.length c0, .int .i64 size, .int .i64 mo, .int .i64 fuel, .bool off, .int .i64 bad] 24) := ⟨_, rfl⟩
  rw [← hW0] at bx q0
  have BX := Lib.hid bx
  have Q0 := Lib.hid q0
  obtain ⟨b0, b1, b2, b3, b5⟩ : W0.cell? ⟨w.heap.size, 0, none⟩ = some (.slice A0 zs.length c0) ∧ W0.cell? ⟨w.heap.size, 1, none⟩ = some (.int .i64 size) ∧ W0.cell? ⟨w.heap.size, 2, none⟩ = some (.int .i64 mo) ∧ W0.cell? ⟨w.heap.size, 3, none⟩ = some (.int .i64 fuel) ∧ W0.cell? ⟨w.heap.size, 5, none⟩ = some (.int .i64 bad) := ⟨bx.cell 0, bx.cell 1, bx.cell 2, bx.cell 3, bx.cell 5⟩
  clear bx q0
  go_enter Try.func16, Try.ntmps16
  go_upto_region 1 with fail
  rw [← hW0]
  clear hW0
  go_cut [3] from 9 to 43 (fun V wx => V = .bool G0 ∧ wx = W0)
  case first =>
    by_cases h1 : 1 ≤ zs.length
    · have j1 : (1 : Int) ≤ (zs.length : Int) := by omega
      by_cases h2 : zs.length ≤ 40
      · have j2 : (zs.length : Int) ≤ 40 := by omega
        by_cases h3 : 1 ≤ size
        · skip
          by_cases h4 : size ≤ 300
          · skip
            by_cases h5 : 1 ≤ mo
            · skip
              by_cases h6 : -1 ≤ fuel
              · skip
                by_cases h7 : 0 ≤ bad
                · skip
                  have HG : Hid (G0 = true) := Lib.hid (by rw [HH.out]; simp [*])
                  go_wp2_with fail
                  go_meet
                  exact ⟨by rw [HG.out], rfl⟩
                · skip
                  have HG : Hid (G0 = false) := Lib.hid (by rw [HH.out]; simp [*])
                  go_wp2_with fail
                  go_meet
                  exact ⟨by rw [HG.out], rfl⟩
              · skip
                have HG : Hid (G0 = false) := Lib.hid (by rw [HH.out]; simp [*])
                go_wp2_with fail
                go_meet
                exact ⟨by rw [HG.out], rfl⟩
            · skip
              have HG : Hid (G0 = false) := Lib.hid (by rw [HH.out]; simp [*])
              go_wp2_with fail
              go_meet
              exact ⟨by rw [HG.out], rfl⟩
          · skip
            have HG : Hid (G0 = false) := Lib.hid (by rw [HH.out]; simp [*])
            go_wp2_with fail
            go_meet
            exact ⟨by rw [HG.out], rfl⟩
        · skip
          have HG : Hid (G0 = false) := Lib.hid (by rw [HH.out]; simp [*])
          go_wp2_with fail
          go_meet
          exact ⟨by rw [HG.out], rfl⟩
      · have j2 : ¬ (zs.length : Int) ≤ 40 := by omega
        have HG : Hid (G0 = false) := Lib.hid (by rw [HH.out]; simp [*])
        go_wp2_with fail
        go_meet
        exact ⟨by rw [HG.out], rfl⟩
    · have j1 : ¬ (1 : Int) ≤ (zs.length : Int) := by omega
      have HG : Hid (G0 = false) := Lib.hid (by rw [HH.out]; simp [*])
      go_wp2_with fail
      go_meet
      exact ⟨by rw [HG.out], rfl⟩
  case rest =>
    obtain ⟨rfl, rfl⟩ := hcut
    clear b0 b1 b2 b3 b5
    go_wp2_with fail
    go_loopw [3, 4, 5] (fun G N I wr => ∃ (i m : Nat) (g : Bool), i ≤ zs.length ∧ I = .int .i64 i ∧ N = .int .i64 m ∧ G = .bool g ∧ Hid (g = (G0 && (zs.take i).all (okZn size))) ∧ Hid (m = openN (zs.take i)) ∧ m ≤ i ∧ Q wc wr) (fun _ _ I _ => zs.length - (intOf I).toNat)
    case atStart => exact ⟨0, 0, G0, Nat.zero_le _, rfl, rfl, rfl, Lib.hid (by simp), Lib.hid rfl, Nat.le_refl _, Q.refl _⟩
    case round =>
      obtain ⟨i, m, g, hil, rfl, rfl, rfl, HG, HN, hmi, q⟩ := hrel
      obtain ⟨wo, hwo⟩ : ∃ x, x = wr := ⟨_, rfl⟩
      subst hwo
      obtain ⟨b0, b1, b2⟩ : wo.cell? ⟨w.heap.size, 0, none⟩ = some (.slice A0 zs.length c0) ∧ wo.cell? ⟨w.heap.size, 1, none⟩ = some (.int .i64 size) ∧ wo.cell? ⟨w.heap.size, 2, none⟩ = some (.int .i64 mo) := ⟨(BX.out.on q).cell 0, (BX.out.on q).cell 1, (BX.out.on q).cell 2⟩
      have HF : Hid (g = false → mayD ⟨zs, size, mo, fuel, off, bad⟩ = false) := Lib.hid (fun e => by
        rw [HM.out]
        have h := HG.out
        rw [e] at h
        cases hh : G0 with
        | false => simp
        | true =>
          rw [hh, Bool.true_and] at h
          have : zs.all (okZn size) = false := by
            rw [← List.take_append_drop i zs, List.all_append, ← h]; rfl
          simp [this])
      by_cases hlt : i < zs.length
      · have hilt : (i : Int) < (zs.length : Int) := by omega
        cases g with
        | false =>
          have HV := Lib.hid (HF.out rfl)
          clear HF
          go_wp2_with fail
          go_ret
          exact ⟨by rw [HV.out]; rfl, Q0.out.trans q⟩
        | true =>
          clear HF
          obtain ⟨a, c1, A1, n1, e1, ha, hok, hat⟩ := HT.out.pick i hlt
          have hyl := hok.1
          unfold maxLen at hyl
          clear hok
          injection e1 with e1 e2 e3
          subst e1 e3
          obtain ⟨z0, z1, z2, -⟩ := hat wo (Q0.out.trans q)
          have HS := Lib.hid (openN_take zs i hlt)
          have HA := Lib.hid (all_take (okZn size) zs i hlt)
          have HK := Lib.hid (okZn_front size zs[i])
          have HFR : Hid (frontZ size zs[i] = (decide ((zs[i].b.length : Int) ≤ size) && (decide (0 ≤ zs[i].firm) && decide (zs[i].firm ≤ zs[i].b.length)))) := Lib.hid rfl
          have HBK : Hid (∀ x, Q wo x → Blks x x.heap.size (.slice A1 zs[i].b.length n1) zs[i].b) := Lib.hid (fun x qx => (hat x ((Q0.out.trans q).trans qx)).2.2.2)
          obtain ⟨y, hy⟩ : ∃ y, y = zs[i] := ⟨_, rfl⟩
          rw [← hy] at z0 z1 z2 HS HA HK HFR HBK hyl
          clear hat hy
          obtain ⟨F0, hF0⟩ : ∃ b, b = frontZ size y := ⟨_, rfl⟩
          rw [← hF0] at HK HFR
          clear hF0
          have bz := Bx.new wo 45 #[.slice A1 y.b.length n1, .int .i64 y.firm, .bool y.full]
          have qz := (Q.refl wo).alloc (.cells #[.slice A1 y.b.length n1, .int .i64 y.firm, .bool y.full] 45)
          obtain ⟨wb, hwb⟩ : ∃ z, z = wo.alloc (.cells #[.slice A1 y.b.length n1, .int .i64 y.firm, .bool y.full] 45) := ⟨_, rfl⟩
          rw [← hwb] at bz qz
          have BZ := Lib.hid bz
          have QZ := Lib.hid qz
          obtain ⟨x0, x1, x2⟩ : wb.cell? ⟨wo.heap.size, 0, none⟩ = some (.slice A1 y.b.length n1) ∧ wb.cell? ⟨wo.heap.size, 1, none⟩ = some (.int .i64 y.firm) ∧ wb.cell? ⟨wo.heap.size, 2, none⟩ = some (.bool y.full) := ⟨bz.cell 0, bz.cell 1, bz.cell 2⟩
          obtain ⟨y0, y1, y2⟩ : wb.cell? ⟨w.heap.size, 0, none⟩ = some (.slice (some a) zs.length c0) ∧ wb.cell? ⟨w.heap.size, 1, none⟩ = some (.int .i64 size) ∧ wb.cell? ⟨w.heap.size, 2, none⟩ = some (.int .i64 mo) := ⟨(BX.out.on (q.trans qz)).cell 0, (BX.out.on (q.trans qz)).cell 1, (BX.out.on (q.trans qz)).cell 2⟩
          clear bz qz
          go_upto_region 8 with fail
          rw [← hwb]
          clear hwb b0 b1 b2 z0 z1 z2
          go_cut [3] from 62 to 76 (fun V wx => V = .bool F0 ∧ wx = wb)
          case first =>
            by_cases k1 : (y.b.length : Int) ≤ size
            · by_cases k2 : 0 ≤ y.firm
              · by_cases k3 : y.firm ≤ (y.b.length : Int)
                · have HV : Hid (F0 = true) := Lib.hid (by rw [HFR.out]; simp [*])
                  go_wp2_with fail
                  go_meet
                  exact ⟨by rw [HV.out], rfl⟩
                · have HV : Hid (F0 = false) := Lib.hid (by rw [HFR.out]; simp [*])
                  go_wp2_with fail
                  go_meet
                  exact ⟨by rw [HV.out], rfl⟩
              · have HV : Hid (F0 = false) := Lib.hid (by rw [HFR.out]; simp [*])
                go_wp2_with fail
                go_meet
                exact ⟨by rw [HV.out], rfl⟩
            · have HV : Hid (F0 = false) := Lib.hid (by rw [HFR.out]; simp [*])
              go_wp2_with fail
              go_meet
              exact ⟨by rw [HV.out], rfl⟩
          case rest =>
            obtain ⟨rfl, hwx⟩ := hcut
            subst hwx
            clear y0 y1 y2 x0 x1 x2
            go_wp2_with fail
            go_loopw [3, 8] (fun G K wx => ∃ (k : Nat) (g : Bool), k ≤ y.b.length ∧ K = .int .i64 k ∧ G = .bool g ∧ Hid (g = (F0 && (y.b.take k).all sz64)) ∧ Q wo wx ∧ Bx wx wo.heap.size 45 #[.slice A1 y.b.length n1, .int .i64 y.firm, .bool y.full]) (fun _ K _ => y.b.length - (intOf K).toNat)
            case atStart => exact ⟨0, F0, Nat.zero_le _, rfl, rfl, Lib.hid (by simp), QZ.out, BZ.out⟩
            case round =>
              obtain ⟨k, g, hkl, rfl, rfl, HK2, q2, bz⟩ := hrel
              obtain ⟨x0, x2⟩ : wr.cell? ⟨wo.heap.size, 0, none⟩ = some (.slice A1 y.b.length n1) ∧ wr.cell? ⟨wo.heap.size, 2, none⟩ = some (.bool y.full) := ⟨bz.cell 0, bz.cell 2⟩
              have y1 : wr.cell? ⟨w.heap.size, 1, none⟩ = some (.int .i64 size) := (BX.out.on (q.trans q2)).cell 1
              by_cases hkt : k < y.b.length
              · have hktl : (k : Int) < (y.b.length : Int) := by omega
                obtain ⟨A2, n2, e2, -, -, hel⟩ := HBK.out wr q2
                injection e2 with e21 e22 e23
                subst e21 e23
                obtain ⟨aa, rfl, -, hs⟩ := hel k hkt
                have HT2 := Lib.hid (all_take sz64 y.b k hkt)
                obtain ⟨s, hse⟩ : ∃ s, s = y.b[k] := ⟨_, rfl⟩
                rw [← hse] at hs HT2
                clear hel hse
                cases g with
                | false =>
                  have HN2 : Hid (false = (F0 && (y.b.take (k + 1)).all sz64)) := Lib.hid (by rw [HT2.out, ← Bool.and_assoc, ← HK2.out]; rfl)
                  go_wp2_with fail
                  go_roundw
                  case rel => exact ⟨k + 1, false, by omega, by go_num, rfl, HN2, q2, bz⟩
                  case measure => simp [intOf]; omega
                | true =>
                  by_cases h64 : s.size = 64
                  · have h64' : ((s.size : Int) == 64) = true := by simp; omega
                    have HN2 : Hid (true = (F0 && (y.b.take (k + 1)).all sz64)) := Lib.hid (by rw [HT2.out, ← Bool.and_assoc, ← HK2.out]; simp [sz64, h64])
                    clear h64
                    go_wp2_with fail
                    go_roundw
                    case rel => exact ⟨k + 1, true, by omega, by go_num, by first | rfl | simp [h64'], HN2, q2, bz⟩
                    case measure => simp [intOf]; omega
                  · have h64' : ((s.size : Int) == 64) = false := by simp; omega
                    have HN2 : Hid (false = (F0 && (y.b.take (k + 1)).all sz64)) := Lib.hid (by rw [HT2.out, ← Bool.and_assoc, ← HK2.out]; simp [sz64, h64])
                    clear h64
                    go_wp2_with fail
                    go_roundw
                    case rel => exact ⟨k + 1, false, by omega, by go_num, by first | rfl | simp [h64'], HN2, q2, bz⟩
                    case measure => simp [intOf]; omega
              · have hktl : ¬ (k : Int) < (y.b.length : Int) := by omega
                rw [List.take_of_length_le (by omega)] at HK2
                have HZ : Hid (okZn size y = (g && ((!decide ((y.b.length : Int) = size) || y.full) && (!decide (y.b.length = 0) || !y.full)))) := Lib.hid (by rw [HK.out, ← HK2.out])
                have HOP : Hid (isOpen y = (decide (0 < y.b.length) && !y.full)) := Lib.hid rfl
                have HGA : Hid (∀ z, okZn size y = z → z = (G0 && (zs.take (i + 1)).all (okZn size))) := Lib.hid (fun z e => by rw [HA.out, e, ← Bool.and_assoc, ← HG.out, Bool.true_and])
                have qq := q.trans q2
                clear HK2 HK HFR HBK QZ BZ HA hkl hkt
                by_cases hsz : (y.b.length : Int) = size
                · have j1 : ((y.b.length : Int) == size) = true := by simpa using hsz
                  by_cases h0 : y.b.length = 0
                  · have j2 : ((y.b.length : Int) == 0) = true := by rw [h0]; rfl
                    have j3 : ¬ (0 : Int) < (y.b.length : Int) := by omega
                    have hd1 : decide ((y.b.length : Int) = size) = true := by simpa using hsz
                    have hd2 : decide (y.b.length = 0) = true := by simpa using h0
                    have hd3 : decide (0 < y.b.length) = false := decide_eq_false (by omega)
                    clear hsz h0
                    cases hf : y.full with
                    | true =>
                      rw [hf] at x2
                      cases g with
                      | true =>
                        have HV : Hid (false = (G0 && (zs.take (i + 1)).all (okZn size))) := Lib.hid (HGA.out _ (by rw [HZ.out, hd1, hd2, hf]; rfl))
                        have HN2 : Hid (m = openN (zs.take (i + 1))) := Lib.hid (by rw [HS.out, ← HN.out, HOP.out, hf, hd3]; rfl)
                        clear HZ HOP HGA HS hd1 hd2 hd3 hf
                        go_wp2_with fail
                        go_roundw
                        case rel => exact ⟨i + 1, m, false, by omega, by go_num, by go_num, rfl, HV, HN2, by omega, qq⟩
                        case measure => simp [intOf]; omega
                      | false =>
                        have HV : Hid (false = (G0 && (zs.take (i + 1)).all (okZn size))) := Lib.hid (HGA.out _ (by rw [HZ.out, hd1, hd2, hf]; rfl))
                        have HN2 : Hid (m = openN (zs.take (i + 1))) := Lib.hid (by rw [HS.out, ← HN.out, HOP.out, hf, hd3]; rfl)
                        clear HZ HOP HGA HS hd1 hd2 hd3 hf
                        go_wp2_with fail
                        go_roundw
                        case rel => exact ⟨i + 1, m, false, by omega, by go_num, by go_num, rfl, HV, HN2, by omega, qq⟩
                        case measure => simp [intOf]; omega
                    | false =>
                      rw [hf] at x2
                      cases g with
                      | true =>
                        have HV : Hid (false = (G0 && (zs.take (i + 1)).all (okZn size))) := Lib.hid (HGA.out _ (by rw [HZ.out, hd1, hd2, hf]; rfl))
                        have HN2 : Hid (m = openN (zs.take (i + 1))) := Lib.hid (by rw [HS.out, ← HN.out, HOP.out, hf, hd3]; rfl)
                        clear HZ HOP HGA HS hd1 hd2 hd3 hf
                        go_wp2_with fail
                        go_roundw
                        case rel => exact ⟨i + 1, m, false, by omega, by go_num, by go_num, rfl, HV, HN2, by omega, qq⟩
                        case measure => simp [intOf]; omega
                      | false =>
                        have HV : Hid (false = (G0 && (zs.take (i + 1)).all (okZn size))) := Lib.hid (HGA.out _ (by rw [HZ.out, hd1, hd2, hf]; rfl))
                        have HN2 : Hid (m = openN (zs.take (i + 1))) := Lib.hid (by rw [HS.out, ← HN.out, HOP.out, hf, hd3]; rfl)
                        clear HZ HOP HGA HS hd1 hd2 hd3 hf
                        go_wp2_with fail
                        go_roundw
                        case rel => exact ⟨i + 1, m, false, by omega, by go_num, by go_num, rfl, HV, HN2, by omega, qq⟩
                        case measure => simp [intOf]; omega
                  · have j2 : ((y.b.length : Int) == 0) = false := beq_false_of_ne (by omega)
                    have j3 : (0 : Int) < (y.b.length : Int) := by omega
                    have hd1 : decide ((y.b.length : Int) = size) = true := by simpa using hsz
                    have hd2 : decide (y.b.length = 0) = false := by simpa using h0
                    have hd3 : decide (0 < y.b.length) = true := decide_eq_true (by omega)
                    clear hsz h0
                    cases hf : y.full with
                    | true =>
                      rw [hf] at x2
                      cases g with
                      | true =>
                        have HV : Hid (true = (G0 && (zs.take (i + 1)).all (okZn size))) := Lib.hid (HGA.out _ (by rw [HZ.out, hd1, hd2, hf]; rfl))
                        have HN2 : Hid (m = openN (zs.take (i + 1))) := Lib.hid (by rw [HS.out, ← HN.out, HOP.out, hf, hd3]; rfl)
                        clear HZ HOP HGA HS hd1 hd2 hd3 hf
                        go_wp2_with fail
                        go_roundw
                        case rel => exact ⟨i + 1, m, true, by omega, by go_num, by go_num, rfl, HV, HN2, by omega, qq⟩
                        case measure => simp [intOf]; omega
                      | false =>
                        have HV : Hid (false = (G0 && (zs.take (i + 1)).all (okZn size))) := Lib.hid (HGA.out _ (by rw [HZ.out, hd1, hd2, hf]; rfl))
                        have HN2 : Hid (m = openN (zs.take (i + 1))) := Lib.hid (by rw [HS.out, ← HN.out, HOP.out, hf, hd3]; rfl)
                        clear HZ HOP HGA HS hd1 hd2 hd3 hf
                        go_wp2_with fail
                        go_roundw
                        case rel => exact ⟨i + 1, m, false, by omega, by go_num, by go_num, rfl, HV, HN2, by omega, qq⟩
                        case measure => simp [intOf]; omega
                    | false =>
                      rw [hf] at x2
                      cases g with
                      | true =>
                        have HV : Hid (false = (G0 && (zs.take (i + 1)).all (okZn size))) := Lib.hid (HGA.out _ (by rw [HZ.out, hd1, hd2, hf]; rfl))
                        have HN2 : Hid (m + 1 = openN (zs.take (i + 1))) := Lib.hid (by rw [HS.out, ← HN.out, HOP.out, hf, hd3]; rfl)
                        clear HZ HOP HGA HS hd1 hd2 hd3 hf
                        go_wp2_with fail
                        go_roundw
                        case rel => exact ⟨i + 1, m + 1, false, by omega, by go_num, by go_num, rfl, HV, HN2, by omega, qq⟩
                        case measure => simp [intOf]; omega
                      | false =>
                        have HV : Hid (false = (G0 && (zs.take (i + 1)).all (okZn size))) := Lib.hid (HGA.out _ (by rw [HZ.out, hd1, hd2, hf]; rfl))
                        have HN2 : Hid (m + 1 = openN (zs.take (i + 1))) := Lib.hid (by rw [HS.out, ← HN.out, HOP.out, hf, hd3]; rfl)
                        clear HZ HOP HGA HS hd1 hd2 hd3 hf
                        go_wp2_with fail
                        go_roundw
                        case rel => exact ⟨i + 1, m + 1, false, by omega, by go_num, by go_num, rfl, HV, HN2, by omega, qq⟩
                        case measure => simp [intOf]; omega
                · have j1 : ((y.b.length : Int) == size) = false := by simpa using hsz
                  by_cases h0 : y.b.length = 0
                  · have j2 : ((y.b.length : Int) == 0) = true := by rw [h0]; rfl
                    have j3 : ¬ (0 : Int) < (y.b.length : Int) := by omega
                    have hd1 : decide ((y.b.length : Int) = size) = false := by simpa using hsz
                    have hd2 : decide (y.b.length = 0) = true := by simpa using h0
                    have hd3 : decide (0 < y.b.length) = false := decide_eq_false (by omega)
                    clear hsz h0
                    cases hf : y.full with
                    | true =>
                      rw [hf] at x2
                      cases g with
                      | true =>
                        have HV : Hid (false = (G0 && (zs.take (i + 1)).all (okZn size))) := Lib.hid (HGA.out _ (by rw [HZ.out, hd1, hd2, hf]; rfl))
                        have HN2 : Hid (m = openN (zs.take (i + 1))) := Lib.hid (by rw [HS.out, ← HN.out, HOP.out, hf, hd3]; rfl)
                        clear HZ HOP HGA HS hd1 hd2 hd3 hf
                        go_wp2_with fail
                        go_roundw
                        case rel => exact ⟨i + 1, m, false, by omega, by go_num, by go_num, rfl, HV, HN2, by omega, qq⟩
                        case measure => simp [intOf]; omega
                      | false =>
                        have HV : Hid (false = (G0 && (zs.take (i + 1)).all (okZn size))) := Lib.hid (HGA.out _ (by rw [HZ.out, hd1, hd2, hf]; rfl))
                        have HN2 : Hid (m = openN (zs.take (i + 1))) := Lib.hid (by rw [HS.out, ← HN.out, HOP.out, hf, hd3]; rfl)
                        clear HZ HOP HGA HS hd1 hd2 hd3 hf
                        go_wp2_with fail
                        go_roundw
                        case rel => exact ⟨i + 1, m, false, by omega, by go_num, by go_num, rfl, HV, HN2, by omega, qq⟩
                        case measure => simp [intOf]; omega
                    | false =>
                      rw [hf] at x2
                      cases g with
                      | true =>
                        have HV : Hid (true = (G0 && (zs.take (i + 1)).all (okZn size))) := Lib.hid (HGA.out _ (by rw [HZ.out, hd1, hd2, hf]; rfl))
                        have HN2 : Hid (m = openN (zs.take (i + 1))) := Lib.hid (by rw [HS.out, ← HN.out, HOP.out, hf, hd3]; rfl)
                        clear HZ HOP HGA HS hd1 hd2 hd3 hf
                        go_wp2_with fail
                        go_roundw
                        case rel => exact ⟨i + 1, m, true, by omega, by go_num, by go_num, rfl, HV, HN2, by omega, qq⟩
                        case measure => simp [intOf]; omega
                      | false =>
                        have HV : Hid (false = (G0 && (zs.take (i + 1)).all (okZn size))) := Lib.hid (HGA.out _ (by rw [HZ.out, hd1, hd2, hf]; rfl))
                        have HN2 : Hid (m = openN (zs.take (i + 1))) := Lib.hid (by rw [HS.out, ← HN.out, HOP.out, hf, hd3]; rfl)
                        clear HZ HOP HGA HS hd1 hd2 hd3 hf
                        go_wp2_with fail
                        go_roundw
                        case rel => exact ⟨i + 1, m, false, by omega, by go_num, by go_num, rfl, HV, HN2, by omega, qq⟩
                        case measure => simp [intOf]; omega
                  · have j2 : ((y.b.length : Int) == 0) = false := beq_false_of_ne (by omega)
                    have j3 : (0 : Int) < (y.b.length : Int) := by omega
                    have hd1 : decide ((y.b.length : Int) = size) = false := by simpa using hsz
                    have hd2 : decide (y.b.length = 0) = false := by simpa using h0
                    have hd3 : decide (0 < y.b.length) = true := decide_eq_true (by omega)
                    clear hsz h0
                    cases hf : y.full with
                    | true =>
                      rw [hf] at x2
                      cases g with
                      | true =>
                        have HV : Hid (true = (G0 && (zs.take (i + 1)).all (okZn size))) := Lib.hid (HGA.out _ (by rw [HZ.out, hd1, hd2, hf]; rfl))
                        have HN2 : Hid (m = openN (zs.take (i + 1))) := Lib.hid (by rw [HS.out, ← HN.out, HOP.out, hf, hd3]; rfl)
                        clear HZ HOP HGA HS hd1 hd2 hd3 hf
                        go_wp2_with fail
                        go_roundw
                        case rel => exact ⟨i + 1, m, true, by omega, by go_num, by go_num, rfl, HV, HN2, by omega, qq⟩
                        case measure => simp [intOf]; omega
                      | false =>
                        have HV : Hid (false = (G0 && (zs.take (i + 1)).all (okZn size))) := Lib.hid (HGA.out _ (by rw [HZ.out, hd1, hd2, hf]; rfl))
                        have HN2 : Hid (m = openN (zs.take (i + 1))) := Lib.hid (by rw [HS.out, ← HN.out, HOP.out, hf, hd3]; rfl)
                        clear HZ HOP HGA HS hd1 hd2 hd3 hf
                        go_wp2_with fail
                        go_roundw
                        case rel => exact ⟨i + 1, m, false, by omega, by go_num, by go_num, rfl, HV, HN2, by omega, qq⟩
                        case measure => simp [intOf]; omega
                    | false =>
                      rw [hf] at x2
                      cases g with
                      | true =>
                        have HV : Hid (true = (G0 && (zs.take (i + 1)).all (okZn size))) := Lib.hid (HGA.out _ (by rw [HZ.out, hd1, hd2, hf]; rfl))
                        have HN2 : Hid (m + 1 = openN (zs.take (i + 1))) := Lib.hid (by rw [HS.out, ← HN.out, HOP.out, hf, hd3]; rfl)
                        clear HZ HOP HGA HS hd1 hd2 hd3 hf
                        go_wp2_with fail
                        go_roundw
                        case rel => exact ⟨i + 1, m + 1, true, by omega, by go_num, by go_num, rfl, HV, HN2, by omega, qq⟩
                        case measure => simp [intOf]; omega
                      | false =>
                        have HV : Hid (false = (G0 && (zs.take (i + 1)).all (okZn size))) := Lib.hid (HGA.out _ (by rw [HZ.out, hd1, hd2, hf]; rfl))
                        have HN2 : Hid (m + 1 = openN (zs.take (i + 1))) := Lib.hid (by rw [HS.out, ← HN.out, HOP.out, hf, hd3]; rfl)
                        clear HZ HOP HGA HS hd1 hd2 hd3 hf
                        go_wp2_with fail
                        go_roundw
                        case rel => exact ⟨i + 1, m + 1, false, by omega, by go_num, by go_num, rfl, HV, HN2, by omega, qq⟩
                        case measure => simp [intOf]; omega
      · have h2 : ¬ (i : Int) < (zs.length : Int) := by omega
        rw [List.take_of_length_le (by omega)] at HG HN
        cases g with
        | false =>
          have HV := Lib.hid (HF.out rfl)
          clear HF
          go_wp2_with fail
          go_ret
          exact ⟨by rw [HV.out]; rfl, Q0.out.trans q⟩
        | true =>
          clear HF
          by_cases hmo : (m : Int) ≤ mo
          · have HV : Hid (mayD ⟨zs, size, mo, fuel, off, bad⟩ = true) := Lib.hid (by rw [HM.out, ← HG.out, ← HN.out]; simpa using hmo)
            go_wp2_with fail
            go_ret
            exact ⟨by rw [HV.out]; rfl, Q0.out.trans q⟩
          · have HV : Hid (mayD ⟨zs, size, mo, fuel, off, bad⟩ = false) := Lib.hid (by rw [HM.out, ← HG.out, ← HN.out]; simpa using hmo)
            go_wp2_with fail
            go_ret
            exact ⟨by rw [HV.out]; rfl, Q0.out.trans q⟩
end Go.Proofs.Yteoondmakdghhaa

