/-
  Entries: as values, as cells, as slices that are read, as rows that a call makes. A box that nothing of versions, entries, parts, uploads and pieces can lie in: they stay where it is written. Buckets, and a bucket at work, in memory. A map of one's own from names to items, as it lies in memory: what is laid in it, deleted, looked up; the range over it. Contracts of the statements' Few of items, and Changes of changes. Contracts of the document's Same of items, and SameChanges. Contract of the document's in: an item, laid in its place. One operation of a held region taken first, with all that it asks shown by itself; several calls that are ready.
-/
import Derived.Test.YtbilnomafloopaaGreatNc
import Derived.Test.YtbilnomafloopaaGreatNb
import Derived.Maps.OwnIn
import Derived.Maps.OwnSet
import Derived.Maps.RangeRun
import Derived.StringKeys
import Derived.Laws.AppendOwnNone
import Derived.Deep.DeepCutAuto
import Derived.Test.YtbilnomafloopaaGreatNa
import Derived.OrdersHeld
import Derived.Deep.RegionHeld
namespace Go.Proofs.YtbilnomafloopaaGreat
set_option maxRecDepth 100000
open Go.ChangeShapes Go.WideShapes Go.ChangeAt Go.RowKit
set_option linter.unusedVariables false
set_option linter.unusedSimpArgs false
/-- An entry. -/
structure Ent where
  key : ByteArray
  L : List Ver
/-- An entry lies at p; its versions lie below block B. -/
def AtE (w : World) (B : Nat) (p : Addr) (e : Ent) : Prop :=
  w.cell? p = some (.string e.key) ∧ ∃ u, w.cell? ⟨p.block, p.off + 1, none⟩ = some u ∧ Vers w B u e.L
def okE (e : Ent) : Prop := e.key.size ≤ maxLen ∧ e.L.length ≤ maxLen
/-- A slice whose elements are these entries; all of it lies below block B. -/
def Ents (w : World) (B : Nat) (v : Value) (l : List Ent) : Prop :=
  ∃ A c, v = .slice A l.length c ∧ l.length ≤ c ∧ (A = none → c = 0) ∧ (∀ x ∈ l, okE x) ∧ ∀ k (h : k < l.length), ∃ a : Addr, A = some a ∧ a.block < B ∧ AtE w B (a.add (k * 2)) l[k]
theorem AtE.below {w w' : World} {B : Nat} {p : Addr} {e : Ent} (h : AtE w B p e) (hp : p.block < B) (k : Below B w w') : AtE w' B p e := by
  obtain ⟨h1, u, h2, h3⟩ := h
  exact ⟨(k.cell hp).trans h1, u, (k.cell (p := ⟨p.block, p.off + 1, none⟩) hp).trans h2, h3.below k⟩
theorem AtE.more {w : World} {B B' : Nat} {p : Addr} {e : Ent} (h : AtE w B p e) (k : B ≤ B') : AtE w B' p e := by
  obtain ⟨h1, u, h2, h3⟩ := h
  exact ⟨h1, u, h2, h3.more k⟩
theorem Ents.below {w w' : World} {B : Nat} {v : Value} {l : List Ent} (h : Ents w B v l) (k : Below B w w') : Ents w' B v l := by
  obtain ⟨A, c, e, e0, ez, eo, f⟩ := h
  refine ⟨A, c, e, e0, ez, eo, fun i hi => ?_⟩
  obtain ⟨a, e1, e2, e3⟩ := f i hi
  exact ⟨a, e1, e2, e3.below (by rw [add_block]; exact e2) k⟩
theorem Ents.more {w : World} {B B' : Nat} {v : Value} {l : List Ent} (h : Ents w B v l) (k : B ≤ B') : Ents w B' v l := by
  obtain ⟨A, c, e, e0, ez, eo, f⟩ := h
  refine ⟨A, c, e, e0, ez, eo, fun i hi => ?_⟩
  obtain ⟨a, e1, e2, e3⟩ := f i hi
  exact ⟨a, e1, by omega, e3.more k⟩
theorem Ents.on {w w' : World} {v : Value} {l : List Ent} (h : Ents w w.heap.size v l) (k : Q w w') : Ents w' w'.heap.size v l := (h.below k).more k.size
theorem Ents.nil (w : World) (B : Nat) : Ents w B (.slice none 0 0) [] := ⟨none, 0, rfl, Nat.le_refl _, fun _ => rfl, by simp, fun k h => absurd h (by simp)⟩
theorem Ents.okAll {w : World} {B : Nat} {v : Value} {l : List Ent} (h : Ents w B v l) : ∀ x ∈ l, okE x := by
  obtain ⟨A, c, e, e0, ez, eo, f⟩ := h; exact eo
theorem Vers.okAll' {w : World} {B : Nat} {v : Value} {l : List Ver} (h : Vers w B v l) : ∀ x ∈ l, okV x := by
  obtain ⟨A, c, e, e0, ez, eo, f⟩ := h; exact eo
theorem Vers.form {w : World} {B : Nat} {v : Value} {l : List Ver} (h : Vers w B v l) : ∃ A c, v = .slice A l.length c := by
  obtain ⟨A, c, e, -⟩ := h; exact ⟨A, c, e⟩
theorem Ents.form {w : World} {B : Nat} {v : Value} {l : List Ent} (h : Ents w B v l) : ∃ A c, v = .slice A l.length c := by
  obtain ⟨A, c, e, -⟩ := h; exact ⟨A, c, e⟩
theorem cells_ent : Tryz.prog.cellsOf 63 = 2 := by kernel_rfl
theorem info_ent : (Tryz.prog.info? 63).map (fun i => (i.zero, i.size, i.bytes)) = some (some (.agg #[.string ⟨#[]⟩, .slice none 0 0]), 2, 40) := by kernel_rfl
/-- What a row of entries is made of: each entry with the value of its versions. -/
def pcells (p : Ent × Value) : List Value := [.string p.1.key, p.2]
def shapes (P : List (Ent × Value)) : Prop := ∀ p ∈ P, ∃ A n c, p.2 = .slice A n c
theorem flat_pcells (P : List (Ent × Value)) : (P.flatMap pcells).length = P.length * 2 := by
  induction P with
  | nil => rfl
  | cons x r ih => rw [List.flatMap_cons, List.length_append, ih, List.length_cons, show (pcells x).length = 2 by rfl]; omega
theorem flat_atP (P : List (Ent × Value)) (k : Nat) (h : k < P.length) {j : Nat} (hj : j < 2) : (P.flatMap pcells)[k * 2 + j]? = (pcells P[k])[j]? := by
  induction P generalizing k with
  | nil => simp at h
  | cons x r ih =>
    rw [List.flatMap_cons]
    cases k with
    | zero => rw [List.getElem?_append_left (by rw [show (pcells x).length = 2 by rfl]; omega)]; simp
    | succ k =>
      rw [List.getElem?_append_right (by rw [show (pcells x).length = 2 by rfl]; omega), show (k + 1) * 2 + j - (pcells x).length = k * 2 + j by rw [show (pcells x).length = 2 by rfl]; omega, ih k (by simpa using h)]
      rfl
theorem pcells_one {p : Ent × Value} (h : ∃ A n c, p.2 = .slice A n c) : ∀ u ∈ pcells p, u.oneCell' = true := by
  intro u hu
  obtain ⟨A, n, c, e⟩ := h
  simp [pcells] at hu
  rcases hu with rfl | rfl
  · rfl
  · rw [e]; rfl
/-- A list of versions that lies below base, or is a row of the call's own, from base on. -/
def Apt (base : Nat) (w : World) (u : Value) (L : List Ver) : Prop := (∀ x ∈ L, okV x) ∧ L.length ≤ maxLen ∧ (Vers w base u L ∨ OwnV base w u L)
theorem Apt.vers {base : Nat} {w : World} {u : Value} {L : List Ver} (h : Apt base w u L) (hb : base ≤ w.heap.size) : Vers w w.heap.size u L := by
  obtain ⟨h1, -, h2 | h2⟩ := h
  · exact h2.more hb
  · exact h2.vers h1
theorem Apt.on {base : Nat} {w w' : World} {u : Value} {L : List Ver} (h : Apt base w u L) (q : Q w w') (hb : base ≤ w.heap.size) : Apt base w' u L := by
  obtain ⟨h1, h0, h2 | h2⟩ := h
  · exact ⟨h1, h0, .inl (h2.below (Below.mono q hb))⟩
  · exact ⟨h1, h0, .inr (h2.on q)⟩
theorem Apt.shape {base : Nat} {w : World} {u : Value} {L : List Ver} (h : Apt base w u L) : ∃ A n c, u = .slice A n c := by
  obtain ⟨-, -, h2 | h2⟩ := h
  · obtain ⟨A, c, e⟩ := h2.form; exact ⟨A, _, c, e⟩
  · rcases h2.2 with ⟨rfl, h0⟩ | ⟨g, cap, cur, rfl, -⟩
    · exact ⟨none, 0, 0, rfl⟩
    · exact ⟨_, _, _, rfl⟩
/-- v is a row of the call's own, from block base on, of these entries. -/
def RowE (base : Nat) (w : World) (v : Value) (P : List (Ent × Value)) : Prop := w.ownsRow base 63 2 v P.length (P.flatMap pcells)
theorem RowE.on {base : Nat} {w w' : World} {v : Value} {P : List (Ent × Value)} (h : RowE base w v P) (q : Q w w') : RowE base w' v P := by
  rcases h.2 with ⟨rfl, h0⟩ | ⟨g, cap, cur, rfl, hb, hg, h1, h2, h3, h4⟩
  · exact ⟨h.1, .inl ⟨rfl, h0⟩⟩
  · exact ⟨h.1, .inr ⟨g, cap, cur, rfl, hb, (q.block g (lt_of_block hg)).trans hg, h1, h2, h3, h4⟩⟩
theorem Apt.grown {base : Nat} {w w' : World} {v u : Value} {P : List (Ent × Value)} {L : List Ver} (h : Apt base w u L) (r : RowE base w v P) (g : w.grownBy w' v.ownBlock) (hb : base ≤ w.heap.size) : Apt base w' u L := by
  obtain ⟨h1, h0, h2 | h2⟩ := h
  · refine ⟨h1, h0, .inl (h2.keep fun p hp => World.cell?_of_block (g.block p.block (by omega) fun e => ?_))⟩
    have := (World.ownsRow.lt r p.block e.symm).1
    omega
  · refine ⟨h1, h0, .inr (World.ownsRow.kept h2 g ?_)⟩
    rcases h2.2 with ⟨rfl, -⟩ | ⟨k, cap, cur, rfl, -, hk, -⟩
    · exact .inl rfl
    · refine .inr fun e => ?_
      rcases r.2 with ⟨rfl, -⟩ | ⟨k', cap', cur', rfl, -, hk', -⟩
      · simp [Value.ownBlock] at e
      · simp [Value.ownBlock] at e
        subst e
        rw [hk] at hk'
        injection hk' with hk'
        injection hk' with e1 e2
        exact absurd e2 (by decide)
/-- A row of entries, all of them as they are. -/
def OwnE (base : Nat) (w : World) (v : Value) (l : List Ent) : Prop := ∃ P : List (Ent × Value), P.map (·.1) = l ∧ RowE base w v P ∧ ∀ p ∈ P, p.1.key.size ≤ maxLen ∧ Apt base w p.2 p.1.L
theorem OwnE.nil (base : Nat) (w : World) : OwnE base w (.slice none 0 0) [] := ⟨[], rfl, World.ownsRow_nil w _ _ _, by simp⟩
theorem OwnE.on {base : Nat} {w w' : World} {v : Value} {l : List Ent} (h : OwnE base w v l) (q : Q w w') (hb : base ≤ w.heap.size) : OwnE base w' v l := by
  obtain ⟨P, e, r, f⟩ := h
  exact ⟨P, e, r.on q, fun p hp => ⟨(f p hp).1, (f p hp).2.on q hb⟩⟩
theorem OwnE.len {base : Nat} {w : World} {v : Value} {l : List Ent} (h : OwnE base w v l) : ∃ A c, v = .slice A l.length c := by
  obtain ⟨P, rfl, r, -⟩ := h
  rw [List.length_map]
  rcases r.2 with ⟨rfl, h0⟩ | ⟨g, cap, cur, rfl, -⟩
  · exact ⟨none, 0, by rw [h0]⟩
  · exact ⟨_, _, rfl⟩
theorem RowE.ents {base : Nat} {w : World} {v : Value} {P : List (Ent × Value)} (r : RowE base w v P) (hb : base ≤ w.heap.size) (f : ∀ p ∈ P, p.1.key.size ≤ maxLen ∧ p.1.L.length ≤ maxLen ∧ Vers w w.heap.size p.2 p.1.L) : Ents w w.heap.size v (P.map (·.1)) := by
  have ok : ∀ x ∈ P.map (·.1), okE x := by
    intro x hx
    obtain ⟨p, hp, rfl⟩ := List.mem_map.1 hx
    exact ⟨(f p hp).1, (f p hp).2.1⟩
  rcases r.2 with ⟨rfl, h0⟩ | ⟨g, cap, cur, rfl, hb, hg, h1, h2, h3, h4⟩
  · rw [List.length_eq_zero_iff.1 h0]; exact Ents.nil _ _
  · refine ⟨some ⟨g, 0, none⟩, cap, by rw [List.length_map], by rw [List.length_map]; exact h1, (by simp), ok, fun k hk => ⟨⟨g, 0, none⟩, rfl, lt_of_block hg, ?_⟩⟩
    rw [List.length_map] at hk
    have hc : ∀ j, j < 2 → w.cell? ((⟨g, 0, none⟩ : Addr).add (k * 2 + j)) = (pcells P[k])[j]? := by
      intro j hj
      have := flat_atP P k hk hj
      obtain ⟨u, hu⟩ : ∃ u, (pcells P[k])[j]? = some u := ⟨_, List.getElem?_eq_getElem (by rw [show (pcells P[k]).length = 2 by rfl]; exact hj)⟩
      rw [hu] at this ⊢
      exact World.ownsRow.cells r (g := g) rfl _ _ this
    have ha : (⟨g, 0, none⟩ : Addr).add (k * 2 + 1) = ⟨((⟨g, 0, none⟩ : Addr).add (k * 2)).block, ((⟨g, 0, none⟩ : Addr).add (k * 2)).off + 1, none⟩ := by
      rw [add_pos _ (by omega), add_block]
      unfold Addr.add
      split
      · rename_i h0; simp [h0]
      · simp [Nat.add_assoc]
    rw [List.getElem_map]
    refine ⟨hc 0 (by omega), P[k].2, ?_, (f _ (List.getElem_mem hk)).2.2⟩
    rw [← ha]; exact hc 1 (by omega)
theorem OwnE.ents {base : Nat} {w : World} {v : Value} {l : List Ent} (h : OwnE base w v l) (hb : base ≤ w.heap.size) : Ents w w.heap.size v l := by
  obtain ⟨P, rfl, r, f⟩ := h
  exact r.ents hb fun p hp => ⟨(f p hp).1, (f p hp).2.2.1, (f p hp).2.vers hb⟩
theorem RowE.onto {base k : Nat} {w2 : World} {v2 : Value} {P R : List (Ent × Value)} (h1 : w2.ownsRow base 63 2 v2 (P.length + k) (P.flatMap pcells ++ R.flatMap pcells)) (hk : k = R.length) : RowE base w2 v2 (P ++ R) := by
  subst hk
  unfold RowE
  rw [List.flatMap_append, List.length_append]
  exact h1
theorem rowE_grown {base : Nat} {w0 wr w2 : World} {v : Value} {P : List (Ent × Value)} (hbel : Below base w0 wr) (hb : base ≤ wr.heap.size) (hown : RowE base wr v P) (h2 : wr.grownBy w2 v.ownBlock) : Below base w0 w2 :=
  hbel.grown h2 hb (fun k hk => (World.ownsRow.lt hown k hk).1)
/-- An entry more. -/
theorem OwnE.snoc {base : Nat} {w w' : World} {v v' : Value} {P : List (Ent × Value)} {p : Ent × Value} (r : RowE base w v P) (f : ∀ q ∈ P, q.1.key.size ≤ maxLen ∧ Apt base w q.2 q.1.L) (hp : p.1.key.size ≤ maxLen) (ha : Apt base w p.2 p.1.L)
    (h1 : w'.ownsRow base 63 2 v' (P.length + 1) (P.flatMap pcells ++ pcells p)) (g : w.grownBy w' v.ownBlock) (hb : base ≤ w.heap.size) : OwnE base w' v' (P.map (·.1) ++ [p.1]) := by
  refine ⟨P ++ [p], by simp, RowE.onto (R := [p]) (by simpa using h1) rfl, fun q hq => ?_⟩
  rcases List.mem_append.1 hq with hq | hq
  · exact ⟨(f q hq).1, (f q hq).2.grown r g hb⟩
  · obtain rfl : q = p := by simpa using hq
    exact ⟨hp, ha.grown r g hb⟩
theorem cells_oneP (w : World) (p : Ent × Value) (t : TypeId) : ∀ j u, (pcells p)[j]? = some u → (w.alloc (.cells #[.string p.1.key, p.2] t)).cell? ((⟨w.heap.size, 0, none⟩ : Addr).add j) = some u := by
  intro j u hj
  obtain ⟨hj2, rfl⟩ := List.getElem?_eq_some_iff.1 hj
  match j, hj2 with
  | 0, _ => simp [Addr.add, pcells]
  | 1, _ => simp [Addr.add, pcells]
/-- All the cells of a slice of entries, with the values of their versions. -/
theorem Ents.flat {w : World} {B : Nat} {a : Addr} {n c : Nat} {l : List Ent} (h : Ents w B (.slice (some a) n c) l) :
    ∃ P : List (Ent × Value), P.map (·.1) = l ∧ (∀ p ∈ P, p.1.key.size ≤ maxLen ∧ p.1.L.length ≤ maxLen ∧ Vers w B p.2 p.1.L) ∧ ∀ j u, (P.flatMap pcells)[j]? = some u → w.cell? (a.add j) = some u := by
  obtain ⟨A, c', e, -, -, ok, f⟩ := h
  injection e with e1 e2 e3
  have each : ∀ i, i < l.length → ∃ p : Ent × Value, (∀ h : i < l.length, p.1 = l[i]) ∧ Vers w B p.2 p.1.L ∧ w.cell? (a.add (i * 2)) = some (.string p.1.key) ∧ w.cell? ⟨(a.add (i * 2)).block, (a.add (i * 2)).off + 1, none⟩ = some p.2 := by
    intro i hi
    obtain ⟨a', ea, -, h1, u, h2, h3⟩ := f i hi
    rw [← e1] at ea
    injection ea with ea
    subst ea
    exact ⟨(l[i], u), fun _ => rfl, h3, h1, h2⟩
  obtain ⟨P, hP, hp⟩ := list_of l.length each
  have hmap : P.map (·.1) = l := by
    refine List.ext_getElem (by rw [List.length_map, hP]) fun i h1 h2 => ?_
    rw [List.getElem_map]
    exact (hp i (by rw [hP]; exact h2)).1 h2
  refine ⟨P, hmap, fun p hm => ?_, fun j u hu => ?_⟩
  · obtain ⟨k, hk, rfl⟩ := List.getElem_of_mem hm
    have hmem : P[k].1 ∈ l := by rw [← hmap]; exact List.mem_map.2 ⟨_, hm, rfl⟩
    exact ⟨(ok _ hmem).1, (ok _ hmem).2, (hp k hk).2.1⟩
  · obtain ⟨hj, -⟩ := List.getElem?_eq_some_iff.1 hu
    rw [flat_pcells] at hj
    have hk : j / 2 < P.length := by omega
    have hj2 : j = j / 2 * 2 + j % 2 := by omega
    rw [hj2, flat_atP P _ hk (by omega)] at hu
    obtain ⟨-, -, c0, c1⟩ := hp (j / 2) hk
    have hr : j % 2 < 2 := by omega
    rw [hj2]
    match hm : j % 2, hr with
    | 0, _ => rw [hm] at hu; simp [pcells] at hu; rw [Nat.add_zero, c0, ← hu]
    | 1, _ =>
      rw [hm] at hu; simp [pcells] at hu
      have hadd : a.add (j / 2 * 2 + 1) = ⟨(a.add (j / 2 * 2)).block, (a.add (j / 2 * 2)).off + 1, none⟩ := by
        rw [add_pos _ (by omega), add_block]
        unfold Addr.add
        split
        · simp [*]
        · simp [Nat.add_assoc]
      rw [hadd, c1, ← hu]
theorem vers_cellE {H : Type} {enc : TypeId × Value → H} {W : World} {n : Nat} {v : Value} {y : DataW H × List MemPlace}
    (hf : DataW.trod enc Tryz.prog W 0 (fun _ => true) true n 61 [v] = some y) : ∃ l : List Ver, Vers W W.heap.size v l ∧ l.length ≤ maxLen := by
  rcases Deep.open_slice Tryz.underlying61 hf with ⟨hcs, hx⟩ | ⟨a, len', cap', m, n, D, Pl, hcs, _, hl, hm, hmm, hx, hel⟩
  · simp at hcs
    subst hcs
    exact ⟨[], Vers.nil _ _, by simp⟩
  · simp at hcs
    subst hcs
    have each : ∀ i, i < len' → ∃ x : Ver, okV x ∧ At W (a.add (i * 4)) x := by
      intro i hi
      obtain ⟨cs', h1, h2⟩ := hel i (by rw [hmm]; simp; omega)
      rw [cells_ver] at h1
      obtain ⟨-, hlen4, hcell⟩ := World.cells?_some h1
      obtain ⟨y0, y1, y2, y3, n', -, -, g0, g1, g2, g3⟩ := Joins.trod_struct4 Tryz.underlying81 h2
      obtain ⟨v0, v1, v2, v3, rfl⟩ : ∃ a b c d, cs' = [a, b, c, d] := by
        match cs', hlen4 with
        | [a, b, c, d], _ => exact ⟨a, b, c, d, rfl⟩
      have c0 : Tryz.prog.cellsOf 47 = 1 := by kernel_rfl
      have c1 : Tryz.prog.cellsOf 9 = 1 := by kernel_rfl
      have c2 : Tryz.prog.cellsOf 4 = 1 := by kernel_rfl
      have c3 : Tryz.prog.cellsOf 3 = 1 := by kernel_rfl
      simp [c0, c1, c2, c3] at g0 g1 g2 g3
      obtain ⟨i', e0, -, w0⟩ := DataW.trod_int Tryz.underlying47 g0
      obtain ⟨s', e1, -, w1⟩ := DataW.trod_string Tryz.underlying9 g1
      obtain ⟨m', e2, -⟩ := DataW.trod_bool Tryz.underlying4 g2
      obtain ⟨t', e3, -, w3⟩ := DataW.trod_int Tryz.underlying3 g3
      simp at e0 e1 e2 e3
      subst e0 e1 e2 e3
      obtain ⟨i', rfl, hi'⟩ := wfu64 w0
      refine ⟨⟨i', s', m', t'⟩, ⟨hi', w1, wf64 w3⟩, ?_, ?_, ?_, ?_⟩
      · exact hcell 0 (by omega)
      · exact (congrArg W.cell? (add_pos _ (by omega : 0 < 1)).symm).trans (hcell 1 (by omega))
      · exact (congrArg W.cell? (add_pos _ (by omega : 0 < 2)).symm).trans (hcell 2 (by omega))
      · exact (congrArg W.cell? (add_pos _ (by omega : 0 < 3)).symm).trans (hcell 3 (by omega))
    obtain ⟨l, hlen, hp⟩ := list_of len' each
    refine ⟨l, ⟨some a, cap', by rw [hlen], by omega, (by simp), ?_, fun k hk => ⟨a, rfl, ?_, (hp k hk).2⟩⟩, by omega⟩
    · intro x hx
      obtain ⟨k, hk, rfl⟩ := List.getElem_of_mem hx
      exact (hp k hk).1
    · have := World.block_lt_of_cell? W _ (hp k hk).2.1
      rw [add_block] at this; exact this
theorem ents_cell {H : Type} {enc : TypeId × Value → H} {W : World} {n : Nat} {v : Value} {y : DataW H × List MemPlace}
    (hf : DataW.trod enc Tryz.prog W 0 (fun _ => true) true n 57 [v] = some y) : ∃ l : List Ent, Ents W W.heap.size v l ∧ l.length ≤ maxLen := by
  rcases Deep.open_slice Tryz.underlying57 hf with ⟨hcs, hx⟩ | ⟨a, len', cap', m, n, D, Pl, hcs, _, hl, hm, hmm, hx, hel⟩
  · simp at hcs
    subst hcs
    exact ⟨[], Ents.nil _ _, by simp⟩
  · simp at hcs
    subst hcs
    have each : ∀ i, i < len' → ∃ x : Ent, okE x ∧ AtE W W.heap.size (a.add (i * 2)) x := by
      intro i hi
      obtain ⟨cs', h1, h2⟩ := hel i (by rw [hmm]; simp; omega)
      rw [cells_ent] at h1
      obtain ⟨-, hlen4, hcell⟩ := World.cells?_some h1
      obtain ⟨y0, y1, n', -, -, g0, g1⟩ := trod_struct2 Tryz.underlying63 h2
      obtain ⟨v0, v1, rfl⟩ : ∃ a b, cs' = [a, b] := by
        match cs', hlen4 with
        | [a, b], _ => exact ⟨a, b, rfl⟩
      have c1 : Tryz.prog.cellsOf 9 = 1 := by kernel_rfl
      have c2 : Tryz.prog.cellsOf 61 = 1 := by kernel_rfl
      simp [c1, c2] at g0 g1
      obtain ⟨s', e1, -, w1⟩ := DataW.trod_string Tryz.underlying9 g0
      simp at e1
      subst e1
      obtain ⟨L, hL, hm⟩ := vers_cellE g1
      refine ⟨⟨s', L⟩, ⟨w1, hm⟩, hcell 0 (by omega), v1, ?_, hL⟩
      exact (congrArg W.cell? (add_pos _ (by omega : 0 < 1)).symm).trans (hcell 1 (by omega))
    obtain ⟨l, hlen, hp⟩ := list_of len' each
    refine ⟨l, ⟨some a, cap', by rw [hlen], by omega, (by simp), ?_, fun k hk => ⟨a, rfl, ?_, (hp k hk).2⟩⟩, by omega⟩
    · intro x hx
      obtain ⟨k, hk, rfl⟩ := List.getElem_of_mem hx
      exact (hp k hk).1
    · have := World.block_lt_of_cell? W _ (hp k hk).2.1
      rw [add_block] at this; exact this
/-- An entry by value. -/
def ent (key : ByteArray) (u : Value) : Value := .agg #[.string key, u]
end Go.Proofs.YtbilnomafloopaaGreat

namespace Go.Proofs.YtbilnomafloopaaGreat
set_option maxRecDepth 100000
open Go.ChangeShapes Go.WideShapes Go.ChangeAt Go.RowKit
set_option linter.unusedVariables false
set_option linter.unusedSimpArgs false
/-- Nothing that was there has changed, but block p. -/
def Kp (p : Nat) (w w' : World) : Prop := w.grownBy w' (some p)
theorem Kp.of {p : Nat} {w w' : World} (q : Q w w') : Kp p w w' := ⟨q.os, q.tape, q.output, q.size, fun k hk _ => q.block k hk⟩
theorem Kp.trans {p : Nat} {a b c : World} (h : Kp p a b) (k : Kp p b c) : Kp p a c :=
  ⟨k.os.trans h.os, k.tape.trans h.tape, k.output.trans h.output, Nat.le_trans h.size k.size, fun i hi hn => (k.block i (Nat.lt_of_lt_of_le hi h.size) hn).trans (h.block i hi hn)⟩
theorem Kp.set {p : Nat} {a b : World} (h : Kp p a b) (i : Nat) (u : Value) : Kp p a (b.setCell ⟨p, i, none⟩ u) := h.trans (grown_set b p i u)
theorem Kp.q {p : Nat} {w0 w w' : World} (q : Q w0 w) (h : Kp p w w') (hp : w0.heap.size ≤ p) : Q w0 w' :=
  Below.grown q h q.size (fun k e => by injection e with e; omega)
theorem Kp.bx {p B : Nat} {w w' : World} {t : TypeId} {cs : Array Value} (h : Kp p w w') (b : Bx w B t cs) (hn : B ≠ p) : Bx w' B t cs :=
  b.same (h.block B b.lt (fun e => hn (by injection e)))
/-- Two neighbours in memory that begin, or stand in, a version, an entry, a part, an upload or a piece. -/
def bad2 : Value → Value → Bool
  | .string _, .slice _ _ _ => true
  | .string _, .bool _ => true
  | .int .i64 _, .string _ => true
  | .int .i64 _, .int .u32 _ => true
  | _, _ => false
def calmC : List Value → Bool
  | a :: b :: r => !bad2 a b && calmC (b :: r)
  | _ => true
theorem calmC_at : ∀ (l : List Value) (o : Nat) (a b : Value), calmC l = true → l[o]? = some a → l[o + 1]? = some b → bad2 a b = false
  | [], o, a, b, _, h, _ => by simp at h
  | [x], o, a, b, _, _, h => by simp at h
  | x :: y :: r, 0, a, b, h, h0, h1 => by
    simp at h0 h1
    subst h0 h1
    simp only [calmC, Bool.and_eq_true, Bool.not_eq_true'] at h
    exact h.1
  | x :: y :: r, o + 1, a, b, h, h0, h1 => by
    simp only [calmC, Bool.and_eq_true] at h
    exact calmC_at (y :: r) o a b h.2 (by simpa using h0) (by simpa using h1)
def Calm (w : World) (p : Nat) : Prop := ∃ t cs, Bx w p t cs ∧ calmC cs.toList = true
theorem Calm.no {w : World} {p : Nat} (h : Calm w p) {o : Nat} {a b : Value} (h0 : w.cell? ⟨p, o, none⟩ = some a) (h1 : w.cell? ⟨p, o + 1, none⟩ = some b) : bad2 a b = false := by
  obtain ⟨t, cs, hb, hc⟩ := h
  rw [hb.cell] at h0 h1
  exact calmC_at cs.toList o a b hc (by simpa using h0) (by simpa using h1)
section
variable {w w' : World} {p : Nat}
theorem Vers.kp {v : Value} {l : List Ver} (h : Vers w w.heap.size v l) (c : Calm w p) (g : Kp p w w') : Vers w' w'.heap.size v l := by
  have hs := g.size
  obtain ⟨A', c', e, e0, ez, eo, f⟩ := h
  refine ⟨A', c', e, e0, ez, eo, fun i hi => ?_⟩
  obtain ⟨a, e1, e2, e3⟩ := f i hi
  refine ⟨a, e1, by omega, ?_⟩
  obtain ⟨h0, h1, h2, h3⟩ := e3
  have hne : (a.add (i * 4)).block ≠ p := fun q => by
    rw [q] at h1 h2
    have := c.no (o := (a.add (i * 4)).off + 1) h1 h2
    simp [bad2] at this
  have hh := g.block (a.add (i * 4)).block (by rw [add_block]; omega) (fun e => hne (by injection e))
  exact ⟨(World.cell?_of_block hh).trans h0, (World.cell?_of_block (a := ⟨(a.add (i * 4)).block, _, none⟩) hh).trans h1, (World.cell?_of_block (a := ⟨(a.add (i * 4)).block, _, none⟩) hh).trans h2, (World.cell?_of_block (a := ⟨(a.add (i * 4)).block, _, none⟩) hh).trans h3⟩
theorem Ents.kp {v : Value} {l : List Ent} (h : Ents w w.heap.size v l) (c : Calm w p) (g : Kp p w w') : Ents w' w'.heap.size v l := by
  have hs := g.size
  obtain ⟨A', c', e, e0, ez, eo, f⟩ := h
  refine ⟨A', c', e, e0, ez, eo, fun i hi => ?_⟩
  obtain ⟨a, e1, e2, h1, u, h2, h3⟩ := f i hi
  obtain ⟨A3, c3, hu⟩ := h3.form
  have hne : (a.add (i * 2)).block ≠ p := fun q => by
    have k1 := h1; have k2 := h2
    rw [q, hu] at k2
    generalize a.add (i * 2) = r at q k1 k2
    obtain ⟨b, o, x⟩ := r
    simp only at q k2
    subst q
    match x with
    | none => have := c.no k1 k2; simp [bad2] at this
    | some x =>
      obtain ⟨t, cs, hb, hc⟩ := c
      simp [World.cell?, show w.heap[b]? = _ from hb] at k1
  have hh := g.block (a.add (i * 2)).block (by rw [add_block]; omega) (fun e => hne (by injection e))
  exact ⟨a, e1, by omega, (World.cell?_of_block hh).trans h1, u, (World.cell?_of_block (a := ⟨(a.add (i * 2)).block, _, none⟩) hh).trans h2, h3.kp c g⟩
theorem Prts.kp {v : Value} {l : List Prt} (h : Prts w w.heap.size v l) (c : Calm w p) (g : Kp p w w') : Prts w' w'.heap.size v l := by
  have hs := g.size
  obtain ⟨A', c', e, e0, ez, eo, f⟩ := h
  refine ⟨A', c', e, e0, ez, eo, fun i hi => ?_⟩
  obtain ⟨a, e1, e2, e3⟩ := f i hi
  refine ⟨a, e1, by omega, ?_⟩
  have hne : (a.add (i * 2)).block ≠ p := fun q => by
    obtain ⟨k1, k2⟩ := e3
    generalize a.add (i * 2) = r at q k1 k2
    obtain ⟨b, o, x⟩ := r
    simp only at q k2
    subst q
    match x with
    | none => have := c.no k1 k2; simp [bad2] at this
    | some x =>
      obtain ⟨t, cs, hb, hc⟩ := c
      simp [World.cell?, show w.heap[b]? = _ from hb] at k1
  have hh := g.block (a.add (i * 2)).block (by rw [add_block]; omega) (fun e => hne (by injection e))
  exact ⟨(World.cell?_of_block hh).trans e3.1, (World.cell?_of_block (a := ⟨(a.add (i * 2)).block, _, none⟩) hh).trans e3.2⟩
theorem Upls.kp {v : Value} {l : List Upl} (h : Upls w w.heap.size v l) (c : Calm w p) (g : Kp p w w') : Upls w' w'.heap.size v l := by
  have hs := g.size
  obtain ⟨A', c', e, e0, ez, eo, f⟩ := h
  refine ⟨A', c', e, e0, ez, eo, fun i hi => ?_⟩
  obtain ⟨a, e1, e2, h0, h1, u, h2, h3⟩ := f i hi
  obtain ⟨A3, c3, hu⟩ := h3.form
  have hne : (a.add (i * 3)).block ≠ p := fun q => by
    have k1 := h1; have k2 := h2
    rw [q] at k1
    rw [q, hu] at k2
    have := c.no (o := (a.add (i * 3)).off + 1) k1 k2
    simp [bad2] at this
  have hh := g.block (a.add (i * 3)).block (by rw [add_block]; omega) (fun e => hne (by injection e))
  exact ⟨a, e1, by omega, (World.cell?_of_block hh).trans h0, (World.cell?_of_block (a := ⟨(a.add (i * 3)).block, _, none⟩) hh).trans h1, u, (World.cell?_of_block (a := ⟨(a.add (i * 3)).block, _, none⟩) hh).trans h2, h3.kp c g⟩
theorem Pces.kp {v : Value} {l : List Pce} (h : Pces w w.heap.size v l) (c : Calm w p) (g : Kp p w w') : Pces w' w'.heap.size v l := by
  have hs := g.size
  obtain ⟨A', c', e, e0, ez, eo, f⟩ := h
  refine ⟨A', c', e, e0, ez, eo, fun i hi => ?_⟩
  obtain ⟨a, e1, e2, e3⟩ := f i hi
  refine ⟨a, e1, by omega, ?_⟩
  have hne : (a.add (i * 2)).block ≠ p := fun q => by
    obtain ⟨k1, k2⟩ := e3
    generalize a.add (i * 2) = r at q k1 k2
    obtain ⟨b, o, x⟩ := r
    simp only at q k2
    subst q
    match x with
    | none => have := c.no k1 k2; simp [bad2] at this
    | some x =>
      obtain ⟨t, cs, hb, hc⟩ := c
      simp [World.cell?, show w.heap[b]? = _ from hb] at k1
  have hh := g.block (a.add (i * 2)).block (by rw [add_block]; omega) (fun e => hne (by injection e))
  exact ⟨(World.cell?_of_block hh).trans e3.1, (World.cell?_of_block (a := ⟨(a.add (i * 2)).block, _, none⟩) hh).trans e3.2⟩
end
/-- A bucket. -/
structure Bkt where
  name : ByteArray
  st : Int
  L : List Ent
  U : List Upl
  last : Nat
/-- A bucket as a value: its lists lie in memory. -/
def bkt (b : Bkt) (lv uv : Value) : Value := .agg #[.string b.name, .int .i64 b.st, lv, uv, .int .u64 (b.last : Nat)]
/-- What can be read of a bucket's lists. -/
def BktV (w : World) (b : Bkt) (lv uv : Value) : Prop := Ents w w.heap.size lv b.L ∧ Upls w w.heap.size uv b.U
theorem BktV.on {w w' : World} {b : Bkt} {lv uv : Value} (h : BktV w b lv uv) (q : Q w w') : BktV w' b lv uv := ⟨h.1.on q, h.2.on q⟩
theorem BktV.kp {w w' : World} {b : Bkt} {lv uv : Value} {p : Nat} (h : BktV w b lv uv) (c : Calm w p) (g : Kp p w w') : BktV w' b lv uv := ⟨h.1.kp c g, h.2.kp c g⟩
/-- The cells of a bucket at work. -/
def wcl (b : Bkt) (A1 : Option Addr) (c1 : Nat) (A2 : Option Addr) (c2 : Nat) (n t : Nat) (s : ByteArray) : Array Value :=
  #[.string b.name, .int .i64 b.st, .slice A1 b.L.length c1, .slice A2 b.U.length c2, .int .u64 (b.last : Nat), .int .u64 (n : Nat), .int .u32 (t : Nat), .string s]
end Go.Proofs.YtbilnomafloopaaGreat

namespace Go.Proofs.YtbilnomafloopaaGreat
set_option maxRecDepth 100000
open Go.ChangeShapes Go.WideShapes Go.ChangeAt Go.RowKit
open Go.ChangeMaps (setBlock)
set_option linter.unusedVariables false
set_option linter.unusedSimpArgs false
theorem heap_new (W : World) (o : Obj) : (W.alloc o).heap[W.heap.size]? = some o := by
  show (W.heap.push o)[W.heap.size]? = some o
  exact Array.getElem?_push_size
/-- A map's block holds no cells: they stay where it is written. -/
theorem map_cells {w : World} {b : Nat} {es : Array MapEntry} {clock : Nat} (hb : w.heap[b]? = some (.map es clock)) (o : Obj) : ∀ (q : Addr) (v : Value), w.cell? q = some v → (setBlock w b o).cell? q = some v := by
  intro q v hp
  have hne : q.block ≠ b := by
    intro e
    obtain ⟨B, k, x⟩ := q
    simp only at e
    subst e
    cases x <;> simp [World.cell?, hb] at hp
  have hh : (setBlock w b o).heap[q.block]? = w.heap[q.block]? := by
    show (w.heap.setIfInBounds b o)[q.block]? = _
    rw [Array.getElem?_setIfInBounds, if_neg (fun e => hne e.symm)]
  rw [World.cell?_of_block hh]
  exact hp
theorem map_kp (w : World) (b : Nat) (o : Obj) : Kp b w (setBlock w b o) :=
  ⟨rfl, rfl, rfl, by simp [setBlock], fun k _ hn => by
    show (w.heap.setIfInBounds b o)[k]? = _
    rw [Array.getElem?_setIfInBounds, if_neg (fun e => hn (by rw [e]))]⟩
abbrev mapI : Nat := 90
theorem str_law : WideMaps.KeyLaw Tryz.prog 9 := WideMaps.string_law Tryz.underlying9
theorem keyS_of {k : ByteArray} (h : k.size ≤ maxLen) : keyOf Tryz.prog 9 (.string k) = some (.string k.data.toList) := WideMaps.keyOf_string_mk Tryz.underlying9 h
theorem str_v {a b : ByteArray} (h : Value.string a = Value.string b) : a = b := by injection h
/-- The entries tell just these items. -/
def MI (es : List MapEntry) (clock : Nat) (L : List Itm) : Prop :=
  (∀ e ∈ es, e.born < clock ∧ ∃ x ∈ L, e.key = .string x.n ∧ e.val = itm x) ∧ (es.map (·.born)).Nodup ∧ es.Pairwise (fun a b => a.key ≠ b.key) ∧ (∀ x ∈ L, ∃ e ∈ es, e.key = .string x.n ∧ e.val = itm x)
theorem MI.nil : MI [] 0 [] := ⟨by simp, by simp, by simp, by simp⟩
theorem parted {α : Type} {l : List α} {j : Nat} {e : α} (h : l[j]? = some e) : l = l.take j ++ e :: l.drop (j + 1) ∧ (l.take j).length = j := by
  obtain ⟨hj, rfl⟩ := List.getElem?_eq_some_iff.1 h
  refine ⟨?_, by simp; omega⟩
  rw [← List.drop_eq_getElem_cons hj, List.take_append_drop]
theorem MI.find {es : List MapEntry} {clock : Nat} {L : List Itm} (h : MI es clock L) (hs : ∀ x ∈ L, x.n.size ≤ maxLen) {k : ByteArray} (hk : k.size ≤ maxLen) (w : World) :
    ((Instr.findKey 9 (.string k) es).run Tryz.prog w = .ok none w ∧ ∀ e ∈ es, e.key ≠ .string k) ∨
    ∃ pre e post, es = pre ++ e :: post ∧ e.key = .string k ∧ (Instr.findKey 9 (.string k) es).run Tryz.prog w = .ok (some (pre.length, e.val)) w ∧ (∀ a ∈ pre ++ post, a.key ≠ .string k) := by
  rcases str_law.find w (keyS_of hk) es (fun e he => by obtain ⟨-, x, hx, e1, -⟩ := h.1 e he; rw [e1]; exact ⟨_, keyS_of (hs x hx)⟩) with ⟨a, b⟩ | ⟨j, e, a, b, c⟩
  · exact .inl ⟨a, b⟩
  · obtain ⟨e1, e2⟩ := parted b
    refine .inr ⟨es.take j, e, es.drop (j + 1), e1, c, by rw [e2]; exact a, ?_⟩
    have hp := h.2.2.1
    rw [e1, List.pairwise_append] at hp
    intro x hx
    rcases List.mem_append.1 hx with hx | hx
    · have := hp.2.2 x hx e (by simp); rw [c] at this; exact this
    · have := (List.pairwise_cons.1 hp.2.1).1 x hx; rw [c] at this; exact fun e => this e.symm
theorem MI.new {es : List MapEntry} {clock : Nat} {L : List Itm} (h : MI es clock L) {x : Itm} (hx : ∀ e ∈ es, e.key ≠ .string x.n) : MI (es ++ [⟨.string x.n, itm x, clock⟩]) (clock + 1) (inG Itm.n L x) := by
  obtain ⟨h1, h2, h3, h4⟩ := h
  refine ⟨fun e he => ?_, ?_, ?_, fun y hy => ?_⟩
  · rcases List.mem_append.1 he with he | he
    · obtain ⟨b, y, hy, e1, e2⟩ := h1 e he
      refine ⟨by omega, y, inG_mem.2 (.inr ⟨hy, fun q => hx e he (by rw [e1, q])⟩), e1, e2⟩
    · simp only [List.mem_singleton] at he
      subst he
      exact ⟨Nat.lt_succ_self _, x, inG_mem.2 (.inl rfl), rfl, rfl⟩
  · rw [List.map_append, List.nodup_append]
    refine ⟨h2, by simp, fun a ha b hb => ?_⟩
    obtain ⟨e, he, rfl⟩ := List.mem_map.1 ha
    simp at hb
    have := (h1 e he).1
    omega
  · rw [List.pairwise_append]
    refine ⟨h3, by simp, fun a ha b hb => ?_⟩
    simp only [List.mem_singleton] at hb
    subst hb
    exact hx a ha
  · rcases inG_mem.1 hy with rfl | ⟨hy, hn⟩
    · exact ⟨_, List.mem_append.2 (.inr (List.mem_singleton.2 rfl)), rfl, rfl⟩
    · obtain ⟨e, he, e1, e2⟩ := h4 y hy
      exact ⟨e, List.mem_append.2 (.inl he), e1, e2⟩
theorem MI.over {pre post : List MapEntry} {e : MapEntry} {clock : Nat} {L : List Itm} (h : MI (pre ++ e :: post) clock L) {x : Itm} (he : e.key = .string x.n) (ho : ∀ a ∈ pre ++ post, a.key ≠ .string x.n) :
    MI (pre ++ ⟨.string x.n, itm x, e.born⟩ :: post) clock (inG Itm.n L x) := by
  obtain ⟨h1, h2, h3, h4⟩ := h
  have hin : ∀ a, a ∈ pre ++ post → a ∈ pre ++ e :: post := fun a ha => by
    rcases List.mem_append.1 ha with q | q
    · exact List.mem_append.2 (.inl q)
    · exact List.mem_append.2 (.inr (List.mem_cons_of_mem _ q))
  have hout : ∀ (d : MapEntry) a, a ∈ pre ++ d :: post → a = d ∨ a ∈ pre ++ post := fun d a ha => by
    rcases List.mem_append.1 ha with q | q
    · exact .inr (List.mem_append.2 (.inl q))
    · rcases List.mem_cons.1 q with q | q
      · exact .inl q
      · exact .inr (List.mem_append.2 (.inr q))
  refine ⟨fun a ha => ?_, ?_, ?_, fun y hy => ?_⟩
  · rcases hout _ a ha with rfl | ha
    · exact ⟨(h1 e (by simp)).1, x, inG_mem.2 (.inl rfl), rfl, rfl⟩
    · obtain ⟨b, y, hy, e1, e2⟩ := h1 a (hin a ha)
      exact ⟨b, y, inG_mem.2 (.inr ⟨hy, fun q => ho a ha (by rw [e1, q])⟩), e1, e2⟩
  · simpa using h2
  · rw [List.pairwise_append] at h3 ⊢
    refine ⟨h3.1, List.pairwise_cons.2 ⟨fun a ha q => ho a (List.mem_append.2 (.inr ha)) q.symm, (List.pairwise_cons.1 h3.2.1).2⟩, fun a ha b hb => ?_⟩
    rcases List.mem_cons.1 hb with rfl | hb
    · exact ho a (List.mem_append.2 (.inl ha))
    · exact h3.2.2 a ha b (List.mem_cons_of_mem _ hb)
  · rcases inG_mem.1 hy with rfl | ⟨hy, hn⟩
    · exact ⟨⟨.string y.n, itm y, e.born⟩, by simp, rfl, rfl⟩
    · obtain ⟨a, ha, e1, e2⟩ := h4 y hy
      rcases hout _ a ha with q | q
      · rw [q, he] at e1; exact absurd (str_v e1).symm hn
      · refine ⟨a, ?_, e1, e2⟩
        rcases List.mem_append.1 q with q | q
        · exact List.mem_append.2 (.inl q)
        · exact List.mem_append.2 (.inr (List.mem_cons_of_mem _ q))
theorem MI.gone {pre post : List MapEntry} {e : MapEntry} {clock : Nat} {L : List Itm} (h : MI (pre ++ e :: post) clock L) {k : ByteArray} (he : e.key = .string k) (ho : ∀ a ∈ pre ++ post, a.key ≠ .string k) :
    MI (pre ++ post) clock (L.filter (fun y => decide (y.n ≠ k))) := by
  obtain ⟨h1, h2, h3, h4⟩ := h
  have hsub : (pre ++ post).Sublist (pre ++ e :: post) := (List.Sublist.refl _).append (List.sublist_cons_self _ _)
  refine ⟨fun a ha => ?_, h2.sublist (hsub.map _), h3.sublist hsub, fun y hy => ?_⟩
  · obtain ⟨b, y, hy, e1, e2⟩ := h1 a (hsub.subset ha)
    exact ⟨b, y, List.mem_filter.2 ⟨hy, by simp only [decide_eq_true_eq]; exact fun q => ho a ha (by rw [e1, q])⟩, e1, e2⟩
  · obtain ⟨hy, hn⟩ := List.mem_filter.1 hy
    simp only [decide_eq_true_eq] at hn
    obtain ⟨a, ha, e1, e2⟩ := h4 y hy
    refine ⟨a, ?_, e1, e2⟩
    rcases List.mem_append.1 ha with q | q
    · exact List.mem_append.2 (.inl q)
    · rcases List.mem_cons.1 q with q | q
      · rw [q, he] at e1; exact absurd (str_v e1).symm hn
      · exact List.mem_append.2 (.inr q)
theorem MI.keep {es : List MapEntry} {clock : Nat} {L : List Itm} (h : MI es clock L) {k : ByteArray} (ho : ∀ a ∈ es, a.key ≠ .string k) : L.filter (fun y => decide (y.n ≠ k)) = L := by
  refine List.filter_eq_self.2 fun y hy => ?_
  obtain ⟨a, ha, e1, -⟩ := h.2.2.2 y hy
  simp only [decide_eq_true_eq]
  exact fun q => ho a ha (by rw [e1, q])
theorem modify_at {α : Type} (pre post : List α) (e : α) (f : α → α) : ((pre ++ e :: post).toArray.modify pre.length f) = (pre ++ f e :: post).toArray := by
  apply Array.ext
  · simp
  · intro i h1 h2
    simp only [Array.getElem_modify, List.getElem_toArray]
    by_cases hi : pre.length = i
    · subst hi; simp
    · rw [if_neg hi]
      by_cases hl : i < pre.length
      · rw [List.getElem_append_left hl, List.getElem_append_left hl]
      · rw [List.getElem_append_right (by omega), List.getElem_append_right (by omega)]
        obtain ⟨j, hj⟩ : ∃ j, i - pre.length = j + 1 := ⟨i - pre.length - 1, by omega⟩
        simp only [hj, List.getElem_cons_succ]
theorem erase_at {α : Type} (pre post : List α) (e : α) : ((pre ++ e :: post).toArray.eraseIdxIfInBounds pre.length) = (pre ++ post).toArray := by
  unfold Array.eraseIdxIfInBounds
  rw [dif_pos (by simp)]
  simp [List.eraseIdx_append_of_length_le]
/-- A map of one's own has just these items. -/
def MapI (p n : Nat) (L : List Itm) (w : World) : Prop := ∃ es clock, w.heap[p]? = some (.map es clock) ∧ MI es.toList clock L ∧ es.size ≤ n
theorem MapI.made (w : World) : MapI w.heap.size 0 [] (w.alloc (.map #[] 0)) := ⟨#[], 0, heap_new w _, MI.nil, Nat.le_refl _⟩
theorem MapI.more {p n m : Nat} {L : List Itm} {w : World} (h : MapI p n L w) (k : n ≤ m) : MapI p m L w := by obtain ⟨es, c, hb, hm, hn⟩ := h; exact ⟨es, c, hb, hm, Nat.le_trans hn k⟩
theorem MapI.lt {p n : Nat} {L : List Itm} {w : World} (h : MapI p n L w) : p < w.heap.size := by obtain ⟨es, c, hb, -⟩ := h; exact lt_of_block hb
theorem MapI.on {p n : Nat} {L : List Itm} {w w' : World} (h : MapI p n L w) (q : Q w w') : MapI p n L w' := by
  obtain ⟨es, c, hb, hm⟩ := h; exact ⟨es, c, (q.block p (lt_of_block hb)).trans hb, hm⟩
theorem MapI.kp {p n r : Nat} {L : List Itm} {w w' : World} (h : MapI p n L w) (g : Kp r w w') (hn : p ≠ r) : MapI p n L w' := by
  obtain ⟨es, c, hb, hm⟩ := h; exact ⟨es, c, (g.block p (lt_of_block hb) (by simpa using hn)).trans hb, hm⟩
theorem set_map {w : World} {b : Nat} {es : Array MapEntry} {clock : Nat} (hb : w.heap[b]? = some (.map es clock)) (o : Obj) : (setBlock w b o).heap[b]? = some o := by
  have hlt := lt_of_block hb
  show (w.heap.setIfInBounds b o)[b]? = _
  simp [hlt]
theorem MapI.put {p n : Nat} {L : List Itm} {w : World} (h : MapI p n L w) (hs : ∀ x ∈ L, x.n.size ≤ maxLen) {x : Itm} (hk : x.n.size ≤ maxLen) :
    ∃ w', (Instr.mapUpdate mapI (.map (some p)) (.string x.n) (itm x)).run Tryz.prog w = .ok () w' ∧ MapI p (n + 1) (inG Itm.n L x) w' ∧ Kp p w w' ∧ (∀ (q : Addr) (v : Value), w.cell? q = some v → w'.cell? q = some v) := by
  obtain ⟨es, clock, hb, hm, hsz⟩ := h
  have hc : ∀ em, (Instr.checkKey em 10000 9 (.string x.n)).run Tryz.prog w = .ok () w := fun em => str_law.check w em (keyS_of hk)
  rcases hm.find hs hk w with ⟨hf, ho⟩ | ⟨pre, e, post, he, hek, hf, ho⟩
  · refine ⟨setBlock w p (.map (es.push ⟨.string x.n, itm x, clock⟩) (clock + 1)), ?_, ⟨_, _, set_map hb _, ?_, by simp; omega⟩, map_kp _ _ _, map_cells hb _⟩
    · simp [Instr.mapUpdate, run_underlying Tryz.underlying90, MapKept.run_getObj_map hb, hc, hf, MapKept.run_setObj_map _ hb, Result.andThen, setBlock]
    · rw [Array.toList_push]; exact hm.new ho
  · have ee : es = (pre ++ e :: post).toArray := by rw [← he]
    have hkt : ∀ u : World, (Instr.keyThatStays (.string x.n) (.string x.n)).run Tryz.prog u = .ok (.string x.n) u := fun u => str_law.stays u (keyS_of hk)
    have hgk : ((es[pre.length]?.map (·.key)).getD (.string x.n)) = .string x.n := by rw [ee]; simp [hek]
    refine ⟨setBlock w p (.map (es.modify pre.length fun e => { e with key := .string x.n, val := itm x }) clock), ?_, ⟨_, _, set_map hb _, ?_, by simp; omega⟩, map_kp _ _ _, map_cells hb _⟩
    · simp [Instr.mapUpdate, run_underlying Tryz.underlying90, MapKept.run_getObj_map hb, hc, hf, hgk, hkt, MapKept.run_setObj_map _ hb, Result.andThen, setBlock]
    · rw [ee, modify_at]
      rw [he] at hm
      exact hm.over hek ho
theorem MapI.del {p n : Nat} {L : List Itm} {w : World} (h : MapI p n L w) (hs : ∀ x ∈ L, x.n.size ≤ maxLen) {k : ByteArray} (hk : k.size ≤ maxLen) (ty : TypeId) :
    ∃ w', (Builtin.delete_ #[mapI, 9] ty #[.map (some p), .string k]).run Tryz.prog w = .ok (.tuple #[]) w' ∧ MapI p n (L.filter (fun y => decide (y.n ≠ k))) w' ∧ Kp p w w' ∧ (∀ (q : Addr) (v : Value), w.cell? q = some v → w'.cell? q = some v) := by
  obtain ⟨es, clock, hb, hm, hsz⟩ := h
  have hc : ∀ em, (Instr.checkKey em 10000 9 (.string k)).run Tryz.prog w = .ok () w := fun em => str_law.check w em (keyS_of hk)
  rcases hm.find hs hk w with ⟨hf, ho⟩ | ⟨pre, e, post, he, hek, hf, ho⟩
  · refine ⟨setBlock w p (.map es clock), ?_, ⟨_, _, set_map hb _, ?_, hsz⟩, map_kp _ _ _, map_cells hb _⟩
    · simp [Builtin.delete_, run_underlying Tryz.underlying90, MapKept.run_getObj_map hb, hc, hf, MapKept.run_setObj_map _ hb, Result.andThen, setBlock]
    · rw [hm.keep ho]; exact hm
  · have ee : es = (pre ++ e :: post).toArray := by rw [← he]
    refine ⟨setBlock w p (.map (es.eraseIdxIfInBounds pre.length) clock), ?_, ⟨_, _, set_map hb _, ?_, by rw [ee, erase_at]; rw [ee] at hsz; simp at hsz ⊢; omega⟩, map_kp _ _ _, map_cells hb _⟩
    · simp [Builtin.delete_, run_underlying Tryz.underlying90, MapKept.run_getObj_map hb, hc, hf, MapKept.run_setObj_map _ hb, Result.andThen, setBlock]
    · rw [ee, erase_at]
      rw [he] at hm
      exact hm.gone hek ho
theorem MapI.look {p n : Nat} {L : List Itm} {w : World} (h : MapI p n L w) (hL : Asc Itm.n L) (hs : ∀ x ∈ L, x.n.size ≤ maxLen) {k : ByteArray} (hk : k.size ≤ maxLen) :
    (∃ x ∈ L, x.n = k ∧ (Instr.lookup mapI (.map (some p)) (.string k) true).run Tryz.prog w = .ok (.tuple #[itm x, .bool true]) w) ∨
    ((∀ x ∈ L, x.n ≠ k) ∧ (Instr.lookup mapI (.map (some p)) (.string k) true).run Tryz.prog w = .ok (.tuple #[itm ⟨⟨#[]⟩, ⟨#[]⟩⟩, .bool false]) w) := by
  obtain ⟨es, clock, hb, hm, -⟩ := h
  have hc : ∀ em, (Instr.checkKey em 10000 9 (.string k)).run Tryz.prog w = .ok () w := fun em => str_law.check w em (keyS_of hk)
  have hz : (zeroValue 68).run Tryz.prog w = .ok (itm ⟨⟨#[]⟩, ⟨#[]⟩⟩) w := by rfl
  rcases hm.find hs hk w with ⟨hf, ho⟩ | ⟨pre, e, post, he, hek, hf, ho⟩
  · refine .inr ⟨fun x hx q => ?_, ?_⟩
    · obtain ⟨a, ha, e1, -⟩ := hm.2.2.2 x hx
      exact ho a ha (by rw [e1, q])
    · simp [Instr.lookup, run_underlying Tryz.underlying90, MapKept.run_getObj_map hb, hc, hf, hz, Result.andThen]
  · obtain ⟨-, x, hx, e1, e2⟩ := hm.1 e (by rw [he]; simp)
    rw [hek] at e1
    refine .inl ⟨x, hx, (str_v e1).symm, ?_⟩
    simp [Instr.lookup, run_underlying Tryz.underlying90, MapKept.run_getObj_map hb, hc, hf, e2, Result.andThen]
theorem run_range_w (w : World) (b : Nat) (es : Array MapEntry) (clock : Nat) (hb : w.heap[b]? = some (.map es clock)) :
    (Instr.range mapI (.map (some b))).run Tryz.prog w = .ok (.pointer (some ⟨w.heap.size, 0, none⟩)) (w.alloc (.mapIter (some b) clock #[] clock)) := by
  simp [Instr.range, run_underlying Tryz.underlying90, MapKept.run_getObj_map hb, Result.andThen]
theorem wpList_range_w {ops : Array Oper} {rest : List Oper} {o : Oper} {a : Act} {Q : Exit → Act → World → Prop} (w : World) (hgd : o.guard = none) (m : Operand) (ho : o.op = .range mapI m)
    (b : Nat) (es : Array MapEntry) (clock : Nat) (hm : a.eval m = .map (some b)) (hb : w.heap[b]? = some (.map es clock))
    (hK : wpList Tryz.prog ops Q rest (a.put o.dst (.pointer (some ⟨w.heap.size, 0, none⟩))) (w.alloc (.mapIter (some b) clock #[] clock))) : wpList Tryz.prog ops Q (o :: rest) a w := by
  refine wpList_plain hgd fun K' hK' => ?_
  unfold Oper.wp
  simp [execOp, ho, hm, run_range_w w b es clock hb, Result.andThen]
  exact hK' _ _ hK
theorem wpList_next_w {ops : Array Oper} {rest : List Oper} {o : Oper} {a : Act} {Q : Exit → Act → World → Prop} (w : World) (hgd : o.guard = none) (it : Operand) (ho : o.op = .next it false)
    (r b since c0 : Nat) (seen : Array Nat) (es : Array MapEntry) (clock : Nat) (hit : a.eval it = .pointer (some ⟨r, 0, none⟩))
    (hr : w.heap[r]? = some (.mapIter (some b) since seen c0)) (hb : w.heap[b]? = some (.map es clock)) (hold : ∀ x ∈ es.toList, x.born < since) (hsc : since ≤ c0)
    (hDone : (leftOf es seen).size = 0 → wpList Tryz.prog ops Q rest (a.put o.dst (.tuple #[.bool false])) w)
    (hMore : ∀ e ∈ (leftOf es seen).toList, ∀ w1, (w1 = w ∨ w1 = w.drew) → wpList Tryz.prog ops Q rest (a.put o.dst (.tuple #[.bool true, e.key, e.val])) (setBlock w1 r (.mapIter (some b) since (seen.push e.born) clock))) :
    wpList Tryz.prog ops Q (o :: rest) a w := by
  refine wpList_plain hgd fun K' hK' => ?_
  unfold Oper.wp
  rcases Go.run_next_at (P := Tryz.prog) w o.type r b since c0 seen es clock hr hb hold hsc with ⟨h0, hrun⟩ | ⟨e, he, w1, hw1, hrun⟩
  · simp [execOp, ho, hit, hrun, Result.andThen]
    exact hK' _ _ (hDone h0)
  · simp [execOp, ho, hit, hrun, Result.andThen]
    exact hK' _ _ (hMore e he w1 hw1)
theorem wpList_entry_w {ops : Array Oper} {rest : List Oper} {o : Oper} {a : Act} {Q : Exit → Act → World → Prop} (w : World) (hgd : o.guard = none) (it : Operand) (ho : o.op = .entry it)
    (r b since : Nat) (seen : Array Nat) (es : Array MapEntry) (clock : Nat) (e : MapEntry) (hit : a.eval it = .pointer (some ⟨r, 0, none⟩))
    (hr : w.heap[r]? = some (.mapIter (some b) since (seen.push e.born) clock)) (hb : w.heap[b]? = some (.map es clock)) (he : e ∈ es.toList) (hn : (es.toList.map (·.born)).Nodup)
    (hK : wpList Tryz.prog ops Q rest (a.put o.dst (.tuple #[e.key, e.val])) w) : wpList Tryz.prog ops Q (o :: rest) a w := by
  refine wpList_plain hgd fun K' hK' => ?_
  unfold Oper.wp
  simp [execOp, ho, hit, Go.run_entry_at (P := Tryz.prog) w r b since seen es clock e hr hb he hn, Result.andThen]
  exact hK' _ _ hK
/-- How many entries are left to the iterator of block r. -/
def leftW (w : World) (r : Nat) (es : Array MapEntry) : Nat := match w.heap[r]? with
  | some (.mapIter _ _ seen _) => (leftOf es seen).size
  | _ => 0
theorem leftW_empty {es : Array MapEntry} {seen : Array Nat} (h : (leftOf es seen).size = 0) {e : MapEntry} (he : e ∈ (leftOf es seen).toList) : False := by
  rw [Array.eq_empty_of_size_eq_zero h] at he
  simp at he
theorem iterW_q {a w w5 : World} (q : Q a w) (h : w5 = w ∨ w5 = w.drew) : Q a w5 := by
  rcases h with rfl | rfl
  · exact q
  · exact q.drew
theorem iterW_at {w w5 : World} {r : Nat} {o : Obj} (hr : w.heap[r]? = some o) (h : w5 = w ∨ w5 = w.drew) : w5.heap[r]? = some o := by
  rcases h with rfl | rfl
  · exact hr
  · exact hr
theorem iterW_set {w : World} {r : Nat} {o o' : Obj} (hr : w.heap[r]? = some o) : (setBlock w r o').heap[r]? = some o' := by
  have hlt : r < w.heap.size := lt_of_block hr
  show (w.heap.setIfInBounds r o')[r]? = _
  simp [hlt]
theorem wpList_run_put {w w' : World} {ops : Array Oper} {rest : List Oper} {o : Oper} {a : Act} {Z : Exit → Act → World → Prop} {t : TypeId} {p : Nat} {key val : Value}
    (hrun : (Instr.mapUpdate t (.map (some p)) key val).run Tryz.prog w = .ok () w') (hg : o.guard = none) (x y v : Operand) (hop : o.op = Op.mapUpdate t x y v)
    (hm : a.eval x = .map (some p)) (hy : a.eval y = key) (hv : a.eval v = val) (hK : wpList Tryz.prog ops Z rest (a.put o.dst undef) w') : wpList Tryz.prog ops Z (o :: rest) a w := by
  refine wpList_plain hg fun K' hK' => ?_
  unfold Oper.wp
  simp [execOp, hop, hm, hy, hv, hrun, Result.andThen]
  exact hK' _ _ hK
theorem wpList_run_del {w w' : World} {ops : Array Oper} {rest : List Oper} {o : Oper} {a : Act} {Z : Exit → Act → World → Prop} {t k : TypeId} {p : Nat} {key : Value}
    (hrun : (Builtin.delete_ #[t, k] o.type #[.map (some p), key]).run Tryz.prog w = .ok (.tuple #[]) w') (hg : o.guard = none) (x y : Operand) (hop : o.op = Op.call { callee := Callee.builtin Builtin.delete, args := #[x, y], argTypes := #[t, k] })
    (hm : a.eval x = .map (some p)) (hy : a.eval y = key) (hK : wpList Tryz.prog ops Z rest (a.put o.dst (.tuple #[])) w') : wpList Tryz.prog ops Z (o :: rest) a w := by
  refine wpList_plain hg fun K' hK' => ?_
  unfold Oper.wp
  simp [execOp, hop, resolve, invoke, builtin, hm, hy, hrun, Result.andThen]
  exact hK' _ _ hK
end Go.Proofs.YtbilnomafloopaaGreat

namespace Go.Proofs.YtbilnomafloopaaGreat
set_option maxRecDepth 100000
open Go.ChangeShapes Go.WideShapes Go.ChangeAt Go.RowKit
set_option linter.unusedVariables false
set_option linter.unusedSimpArgs false
def cutT (k : Nat) (s : ByteArray) : ByteArray := if k < s.size then s.extract 0 k else s
def fewIt (x : Itm) : Itm := ⟨cutT 120 x.n, cutT 2100 x.val⟩
def fewIs (l : List Itm) : List Itm := (l.take 60).map fewIt
theorem cells_itm2 (w : World) (o : Obj) (x : Itm) (t : TypeId) : ∀ j u, (icl x)[j]? = some u → ((w.alloc o).alloc (.cells (icl x).toArray t)).cell? ((⟨w.heap.size + 1, 0, none⟩ : Addr).add j) = some u := by
  have h := cells_oneitm (w.alloc o) x t
  rw [World.size_alloc] at h
  exact h
def fewCh (x : Chg) : Chg := ⟨cutT 120 x.n, cutT 2100 x.val, x.gone⟩
def fewCs (l : List Chg) : List Chg := (l.take 60).map fewCh
end Go.Proofs.YtbilnomafloopaaGreat

namespace Go.Proofs.YtbilnomafloopaaGreat
set_option maxRecDepth 100000
open Go.ChangeShapes Go.WideShapes Go.ChangeAt Go.RowKit
set_option linter.unusedVariables false
set_option linter.unusedSimpArgs false
instance : DecidableEq Itm := fun x y => if h : x.n = y.n ∧ x.val = y.val then .isTrue (by cases x; cases y; simp only at h; rw [h.1, h.2]) else .isFalse (fun e => h (by rw [e]; exact ⟨rfl, rfl⟩))
instance : DecidableEq Chg := fun x y => if h : x.n = y.n ∧ x.val = y.val ∧ x.gone = y.gone then .isTrue (by cases x; cases y; simp only at h; rw [h.1, h.2.1, h.2.2]) else .isFalse (fun e => h (by rw [e]; exact ⟨rfl, rfl, rfl⟩))
theorem list_neG {α : Type} {a b : List α} {i : Nat} (h : i < a.length) (k : i < b.length) (n : a[i] ≠ b[i]) : a ≠ b := by
  intro e
  subst e
  exact n rfl
theorem isame_ne {x y : Itm} (h : x ≠ y) : (x.n ≠ y.n) ∨ (x.n = y.n ∧ x.val ≠ y.val) := by
  obtain ⟨a, b⟩ := x
  obtain ⟨a', b'⟩ := y
  simp only [ne_eq, Itm.mk.injEq, not_and] at h ⊢
  by_cases h1 : a = a'
  · exact .inr ⟨h1, h h1⟩
  · exact .inl h1
set_option maxHeartbeats 2000000 in
theorem isame_any (a b : List Itm) (va vb : Value) (w : World) (hl : a.length ≤ 100000) (hlb : b.length ≤ 100000) (ha : Itms w w.heap.size va a) (hb : Itms w w.heap.size vb b) :
    Calls Tryz.prog 16 #[va, vb] w fun e w' => e = .returned (.bool (decide (a = b))) ∧ D w w' := by
  obtain ⟨R, hRe⟩ : ∃ R, R = decide (a = b) := ⟨_, rfl⟩
  rw [← hRe]
  have hR : (R = true ∧ a = b) ∨ (R = false ∧ a ≠ b) := by
    by_cases h : a = b
    · exact .inl ⟨by rw [hRe]; simp [h], h⟩
    · exact .inr ⟨by rw [hRe]; simp [h], h⟩
  clear hRe
  obtain ⟨A, c, rfl, -, -, -, hca⟩ := ha
  obtain ⟨B, c', rfl, -, -, -, hcb⟩ := hb
  have HA := Lib.hid hca
  have HB := Lib.hid hcb
  have HR := Lib.hid hR
  clear hca hcb hR
  by_cases he : a.length = b.length
  · have hen : ((a.length : Int) != (b.length : Int)) = false := by simp [he]
    have HE := Lib.hid he
    clear he
    go_enter Tryz.func16, Tryz.ntmps16
    go_wp2_with fail
    go_loopw [5] (fun I wr => ∃ i : Nat, i ≤ a.length ∧ I = .int .i64 i ∧ D w wr ∧ Hid (a.take i = b.take i)) (fun I _ => a.length - (intOf I).toNat)
    case atStart => exact ⟨0, Nat.zero_le _, rfl, D.refl _, Lib.hid (by simp)⟩
    case round =>
      obtain ⟨i, hil, rfl, d, HT⟩ := hrel
      by_cases hlt : i < a.length
      · have hlb2 : i < b.length := by rw [← HE.out]; exact hlt
        obtain ⟨p, rfl, hp, hat⟩ := HA.out i hlt
        obtain ⟨q, rfl, hq, hbt⟩ := HB.out i hlb2
        obtain ⟨m, rfl⟩ := d
        obtain ⟨c0, c1⟩ := hat
        obtain ⟨d0, d1⟩ := hbt
        have h2 : (i : Int) < (b.length : Int) := by omega
        by_cases hxy : a[i] = b[i]
        · have HT2 : Hid (a.take (i + 1) = b.take (i + 1)) := Lib.hid (by rw [List.take_succ_eq_append_getElem hlt, List.take_succ_eq_append_getElem hlb2, HT.out, hxy])
          rw [← hxy] at d0 d1
          obtain ⟨x, hx⟩ : ∃ x, x = a[i] := ⟨_, rfl⟩
          rw [← hx] at c0 c1 d0 d1
          clear hx hxy
          go_wp2_with fail
          go_region
          go_wp2
          go_roundw
          case rel => exact ⟨i + 1, by omega, by go_num, ⟨m + 1, by simp [Nat.add_comm]⟩, HT2⟩
          case measure => simp [intOf]; omega
        · have HV : Hid (R = false) := Lib.hid (by rcases HR.out with ⟨-, h⟩ | ⟨h, -⟩; exact absurd h (list_neG hlt hlb2 hxy); exact h)
          have hne := isame_ne hxy
          obtain ⟨x, hx⟩ : ∃ x, x = a[i] := ⟨_, rfl⟩
          obtain ⟨y, hy⟩ : ∃ y, y = b[i] := ⟨_, rfl⟩
          rw [← hx] at c0 c1 hne
          rw [← hy] at d0 d1 hne
          clear hx hy hxy
          obtain ⟨xn, xv⟩ := x
          obtain ⟨yn, yv⟩ := y
          simp only at c0 c1 d0 d1 hne
          rcases hne with h | ⟨rfl, h⟩
          · have h' : ¬ (xn.toList = yn.toList) := fun e => h (bl_inj (by rw [← toList_bl, ← toList_bl, e]))
            clear h
            go_wp2_with fail
            go_region
            go_wp2
            go_ret
            exact ⟨ret_bool (by rw [HV.out]), (D.drewN ⟨m, rfl⟩ 1)⟩
          · have h' : ¬ (xv.toList = yv.toList) := fun e => h (bl_inj (by rw [← toList_bl, ← toList_bl, e]))
            clear h
            go_wp2_with fail
            go_region
            go_wp2
            go_ret
            exact ⟨ret_bool (by rw [HV.out]), (D.drewN ⟨m, rfl⟩ 1)⟩
      · have HV : Hid (R = true) := Lib.hid (by rcases HR.out with ⟨h, -⟩ | ⟨-, h⟩; exact h; exact absurd (by have := HT.out; rwa [List.take_of_length_le (by omega), List.take_of_length_le (by have := HE.out; omega)] at this) h)
        have h2 : ¬ (i : Int) < (a.length : Int) := by omega
        go_wp2
        go_ret
        exact ⟨ret_bool (by rw [HV.out]), d⟩
  · have HV : Hid (R = false) := Lib.hid (by rcases HR.out with ⟨-, h⟩ | ⟨h, -⟩; exact absurd (congrArg List.length h) he; exact h)
    have hen : ((a.length : Int) != (b.length : Int)) = true := by simp; omega
    clear he
    go_enter Tryz.func16, Tryz.ntmps16
    go_wp2
    go_ret
    exact ⟨ret_bool (by rw [HV.out]), D.refl _⟩
end Go.Proofs.YtbilnomafloopaaGreat

namespace Go.Proofs.YtbilnomafloopaaGreat
set_option maxRecDepth 100000
open Go.ChangeShapes Go.WideShapes Go.ChangeAt Go.RowKit
set_option linter.unusedVariables false
set_option linter.unusedSimpArgs false
@[go_sem] theorem binOp_string_gtrI (t : TypeId) (a b : ByteArray) : binOp .gtr t (.string a) (.string b) = pure (.bool !(Op.bytesLess a.toList b.toList || a.toList == b.toList)) := by simp [binOp, Op.stringOp]
theorem gtr_formZ (a b : ByteArray) : (!(Op.bytesLess a.toList b.toList || a.toList == b.toList)) = ltBZ b a := by rw [less_leqZ]; simp [ltBZ]
end Go.Proofs.YtbilnomafloopaaGreat

namespace Go.Proofs.YtbilnomafloopaaGreat
set_option maxRecDepth 100000
open Go.ChangeShapes Go.WideShapes Go.ChangeAt Go.RowKit
set_option linter.unusedVariables false
set_option linter.unusedSimpArgs false
theorem tkV {P : Program} {ops : Array Oper} {Q : Exit → Act → World → Prop} {md : Region.Mode} {S : World → Prop} {G : Prop} (i : Nat) {v : Value} {oi : Oper} {fuel : Nat} {listed : Array Bool} {a : Act} {w : World} (h : G) (hi : ops[i]? = some oi := by rfl)
    (hs : Region.noSelect ops = true := by kernel_rfl) (hf : Region.free md ops listed i = true := by kernel_rfl) (hr : (Region.ready md ops listed).contains i = true := by kernel_rfl) (hw : Region.wanted oi (yielded ops a.tmps) = true := by rfl) (hS : S w := by assumption) (hv : ∀ x, S x → (execOp a.eval oi).run P x = .ok (.value v) x := by (intro wx hSw; (try dsimp only at hSw); go_simp; (try with_reducible rfl))) (hQ : ∀ c a w, Q (.panic c) (a.put oi.dst v) w → Q (.panic c) a w := by exact fun _ _ _ h => h) (hg : wpAnyH P md ops Q S fuel (listed.setIfInBounds i true) (a.put oi.dst v) w = G := by ((try simp only [Act.put, PS]); rfl)) : wpAnyH P md ops Q S (fuel + 1) listed a w :=
  wpAnyH_take hi hs hf hr hQ (Or.inl ⟨hw, hv⟩) hS (Eq.mpr hg h)
theorem tkB {P : Program} {ops : Array Oper} {Q : Exit → Act → World → Prop} {md : Region.Mode} {S : World → Prop} {G : Prop} (i : Nat) (v : Value) {oi : Oper} {fuel : Nat} {listed : Array Bool} {a : Act} {w : World} (h : G) (hi : ops[i]? = some oi := by rfl)
    (hs : Region.noSelect ops = true := by kernel_rfl) (hf : Region.free md ops listed i = true := by kernel_rfl) (hr : (Region.ready md ops listed).contains i = true := by kernel_rfl) (hw : Region.wanted oi (yielded ops a.tmps) = true := by rfl) (hS : S w := by assumption) (hv : ∀ x, S x → (execOp a.eval oi).run P x = .ok (.value v) x := by (intro wx hSw; (try dsimp only at hSw); go_simp; (try omega); (try simp [*]); (try omega))) (hQ : ∀ c a w, Q (.panic c) (a.put oi.dst v) w → Q (.panic c) a w := by exact fun _ _ _ h => h) (hg : wpAnyH P md ops Q S fuel (listed.setIfInBounds i true) (a.put oi.dst v) w = G := by ((try simp only [Act.put, PS]); rfl)) : wpAnyH P md ops Q S (fuel + 1) listed a w :=
  wpAnyH_take hi hs hf hr hQ (Or.inl ⟨hw, hv⟩) hS (Eq.mpr hg h)
theorem aR {P : Program} {ops : Array Oper} {Q : Exit → Act → World → Prop} {md : Region.Mode} {S : World → Prop} {fuel : Nat} {listed : Array Bool} {a : Act} {w : World} (rs : List Nat) (h : AllReadyH P md ops Q S fuel listed a w rs) (hr : Region.ready md ops listed = rs := by kernel_rfl) (hne : rs ≠ [] := by simp) : wpAnyH P md ops Q S (fuel + 1) listed a w := wpAnyH_ready hr hne h
theorem pg {A G : Prop} (h : G) (hg : A = G := by ((try simp only [Act.put, PS]); rfl)) : A := Eq.mpr hg h
end Go.Proofs.YtbilnomafloopaaGreat

