/-
  Entries: as values, as cells, as slices that are read, as rows that a call makes.
-/
import Derived.Test.YtipipjpdlblifaaPGrow
import Derived.Test.YtipipjpdlblifaaNRefs
namespace Go.Proofs.Ytipipjpdlblifaa
open Go.ChangeShapes Go.WideShapes Go.ChangeAt Go.RowKit
set_option linter.unusedVariables false
set_option linter.unusedSimpArgs false

/-- An entry. -/
structure Ent where
  key : ByteArray
  L : List Ver
/-- An entry lies at p; its versions lie below block B. -/
def AtE (w : World) (B : Nat) (p : Addr) (e : Ent) : Prop :=
  w.cell? p = some (.string e.key) ∧ ∃ u, w.cell? ⟨p.block, p.off + 1, none⟩ = some u ∧ Vers w B u e.L
def okE (e : Ent) : Prop := e.key.size ≤ maxLen ∧ e.L.length ≤ maxLen
/-- A slice whose elements are these entries; all of it lies below block B. -/
def Ents (w : World) (B : Nat) (v : Value) (l : List Ent) : Prop :=
  ∃ A c, v = .slice A l.length c ∧ l.length ≤ c ∧ (A = none → c = 0) ∧ (∀ x ∈ l, okE x) ∧ ∀ k (h : k < l.length), ∃ a : Addr, A = some a ∧ a.block < B ∧ AtE w B (a.add (k * 2)) l[k]
theorem AtE.below {w w' : World} {B : Nat} {p : Addr} {e : Ent} (h : AtE w B p e) (hp : p.block < B) (k : Below B w w') : AtE w' B p e := by
  obtain ⟨h1, u, h2, h3⟩ := h
  exact ⟨(k.cell hp).trans h1, u, (k.cell (p := ⟨p.block, p.off + 1, none⟩) hp).trans h2, h3.below k⟩
theorem AtE.more {w : World} {B B' : Nat} {p : Addr} {e : Ent} (h : AtE w B p e) (k : B ≤ B') : AtE w B' p e := by
  obtain ⟨h1, u, h2, h3⟩ := h
  exact ⟨h1, u, h2, h3.more k⟩
theorem Ents.below {w w' : World} {B : Nat} {v : Value} {l : List Ent} (h : Ents w B v l) (k : Below B w w') : Ents w' B v l := by
  obtain ⟨A, c, e, e0, ez, eo, f⟩ := h
  refine ⟨A, c, e, e0, ez, eo, fun i hi => ?_⟩
  obtain ⟨a, e1, e2, e3⟩ := f i hi
  exact ⟨a, e1, e2, e3.below (by rw [add_block]; exact e2) k⟩
theorem Ents.more {w : World} {B B' : Nat} {v : Value} {l : List Ent} (h : Ents w B v l) (k : B ≤ B') : Ents w B' v l := by
  obtain ⟨A, c, e, e0, ez, eo, f⟩ := h
  refine ⟨A, c, e, e0, ez, eo, fun i hi => ?_⟩
  obtain ⟨a, e1, e2, e3⟩ := f i hi
  exact ⟨a, e1, by omega, e3.more k⟩
theorem Ents.on {w w' : World} {v : Value} {l : List Ent} (h : Ents w w.heap.size v l) (k : Q w w') : Ents w' w'.heap.size v l := (h.below k).more k.size
theorem Ents.nil (w : World) (B : Nat) : Ents w B (.slice none 0 0) [] := ⟨none, 0, rfl, Nat.le_refl _, fun _ => rfl, by simp, fun k h => absurd h (by simp)⟩
theorem Ents.okAll {w : World} {B : Nat} {v : Value} {l : List Ent} (h : Ents w B v l) : ∀ x ∈ l, okE x := by
  obtain ⟨A, c, e, e0, ez, eo, f⟩ := h; exact eo
theorem Vers.okAll' {w : World} {B : Nat} {v : Value} {l : List Ver} (h : Vers w B v l) : ∀ x ∈ l, okV x := by
  obtain ⟨A, c, e, e0, ez, eo, f⟩ := h; exact eo
theorem Vers.form {w : World} {B : Nat} {v : Value} {l : List Ver} (h : Vers w B v l) : ∃ A c, v = .slice A l.length c := by
  obtain ⟨A, c, e, -⟩ := h; exact ⟨A, c, e⟩
theorem Ents.form {w : World} {B : Nat} {v : Value} {l : List Ent} (h : Ents w B v l) : ∃ A c, v = .slice A l.length c := by
  obtain ⟨A, c, e, -⟩ := h; exact ⟨A, c, e⟩
theorem Ents.okVs {w : World} {B : Nat} {v : Value} {l : List Ent} (h : Ents w B v l) : ∀ x ∈ l, ∀ y ∈ x.L, okV y := by
  obtain ⟨A, c, e, e0, ez, eo, f⟩ := h
  intro x hx
  obtain ⟨k, hk, rfl⟩ := List.getElem_of_mem hx
  obtain ⟨a, -, -, -, u, -, hu⟩ := f k hk
  exact hu.okAll'

theorem cells_ent : Try.prog.cellsOf 61 = 2 := by kernel_rfl
theorem info_ent : (Try.prog.info? 61).map (fun i => (i.zero, i.size, i.bytes)) = some (some (.agg #[.string ⟨#[]⟩, .slice none 0 0]), 2, 40) := by kernel_rfl

/-- What a row of entries is made of: each entry with the value of its versions. -/
def pcells (p : Ent × Value) : List Value := [.string p.1.key, p.2]
def shapes (P : List (Ent × Value)) : Prop := ∀ p ∈ P, ∃ A n c, p.2 = .slice A n c
theorem flat_pcells (P : List (Ent × Value)) : (P.flatMap pcells).length = P.length * 2 := by
  induction P with
  | nil => rfl
  | cons x r ih => rw [List.flatMap_cons, List.length_append, ih, List.length_cons, show (pcells x).length = 2 by rfl]; omega
theorem flat_atP (P : List (Ent × Value)) (k : Nat) (h : k < P.length) {j : Nat} (hj : j < 2) : (P.flatMap pcells)[k * 2 + j]? = (pcells P[k])[j]? := by
  induction P generalizing k with
  | nil => simp at h
  | cons x r ih =>
    rw [List.flatMap_cons]
    cases k with
    | zero => rw [List.getElem?_append_left (by rw [show (pcells x).length = 2 by rfl]; omega)]; simp
    | succ k =>
      rw [List.getElem?_append_right (by rw [show (pcells x).length = 2 by rfl]; omega), show (k + 1) * 2 + j - (pcells x).length = k * 2 + j by rw [show (pcells x).length = 2 by rfl]; omega, ih k (by simpa using h)]
      rfl
theorem pcells_one {p : Ent × Value} (h : ∃ A n c, p.2 = .slice A n c) : ∀ u ∈ pcells p, u.oneCell' = true := by
  intro u hu
  obtain ⟨A, n, c, e⟩ := h
  simp [pcells] at hu
  rcases hu with rfl | rfl
  · rfl
  · rw [e]; rfl
theorem flat_oneP {P : List (Ent × Value)} (h : shapes P) : ∀ u ∈ P.flatMap pcells, u.oneCell' = true := by
  intro u hu
  obtain ⟨x, hm, hx⟩ := List.mem_flatMap.1 hu
  exact pcells_one (h x hm) u hx

/-- A list of versions that lies below base, or is a row of the call's own, from base on. -/
def Apt (base : Nat) (w : World) (u : Value) (L : List Ver) : Prop := (∀ x ∈ L, okV x) ∧ L.length ≤ maxLen ∧ (Vers w base u L ∨ OwnV base w u L)
theorem Apt.vers {base : Nat} {w : World} {u : Value} {L : List Ver} (h : Apt base w u L) (hb : base ≤ w.heap.size) : Vers w w.heap.size u L := by
  obtain ⟨h1, -, h2 | h2⟩ := h
  · exact h2.more hb
  · exact h2.vers h1
theorem Apt.on {base : Nat} {w w' : World} {u : Value} {L : List Ver} (h : Apt base w u L) (q : Q w w') (hb : base ≤ w.heap.size) : Apt base w' u L := by
  obtain ⟨h1, h0, h2 | h2⟩ := h
  · exact ⟨h1, h0, .inl (h2.below (Below.mono q hb))⟩
  · exact ⟨h1, h0, .inr (h2.on q)⟩
theorem Apt.shape {base : Nat} {w : World} {u : Value} {L : List Ver} (h : Apt base w u L) : ∃ A n c, u = .slice A n c := by
  obtain ⟨-, -, h2 | h2⟩ := h
  · obtain ⟨A, c, e⟩ := h2.form; exact ⟨A, _, c, e⟩
  · rcases h2.2 with ⟨rfl, h0⟩ | ⟨g, cap, cur, rfl, -⟩
    · exact ⟨none, 0, 0, rfl⟩
    · exact ⟨_, _, _, rfl⟩
/-- v is a row of the call's own, from block base on, of these entries. -/
def RowE (base : Nat) (w : World) (v : Value) (P : List (Ent × Value)) : Prop := w.ownsRow base 61 2 v P.length (P.flatMap pcells)
theorem RowE.on {base : Nat} {w w' : World} {v : Value} {P : List (Ent × Value)} (h : RowE base w v P) (q : Q w w') : RowE base w' v P := by
  rcases h.2 with ⟨rfl, h0⟩ | ⟨g, cap, cur, rfl, hb, hg, h1, h2, h3, h4⟩
  · exact ⟨h.1, .inl ⟨rfl, h0⟩⟩
  · exact ⟨h.1, .inr ⟨g, cap, cur, rfl, hb, (q.block g (lt_of_block hg)).trans hg, h1, h2, h3, h4⟩⟩
theorem Apt.grown {base : Nat} {w w' : World} {v u : Value} {P : List (Ent × Value)} {L : List Ver} (h : Apt base w u L) (r : RowE base w v P) (g : w.grownBy w' v.ownBlock) (hb : base ≤ w.heap.size) : Apt base w' u L := by
  obtain ⟨h1, h0, h2 | h2⟩ := h
  · refine ⟨h1, h0, .inl (h2.keep fun p hp => World.cell?_of_block (g.block p.block (by omega) fun e => ?_))⟩
    have := (World.ownsRow.lt r p.block e.symm).1
    omega
  · refine ⟨h1, h0, .inr (World.ownsRow.kept h2 g ?_)⟩
    rcases h2.2 with ⟨rfl, -⟩ | ⟨k, cap, cur, rfl, -, hk, -⟩
    · exact .inl rfl
    · refine .inr fun e => ?_
      rcases r.2 with ⟨rfl, -⟩ | ⟨k', cap', cur', rfl, -, hk', -⟩
      · simp [Value.ownBlock] at e
      · simp [Value.ownBlock] at e
        subst e
        rw [hk] at hk'
        injection hk' with hk'
        injection hk' with e1 e2
        exact absurd e2 (by decide)
/-- A row of entries, all of them as they are. -/
def OwnE (base : Nat) (w : World) (v : Value) (l : List Ent) : Prop := ∃ P : List (Ent × Value), P.map (·.1) = l ∧ RowE base w v P ∧ ∀ p ∈ P, p.1.key.size ≤ maxLen ∧ Apt base w p.2 p.1.L
theorem OwnE.nil (base : Nat) (w : World) : OwnE base w (.slice none 0 0) [] := ⟨[], rfl, World.ownsRow_nil w _ _ _, by simp⟩
theorem OwnE.on {base : Nat} {w w' : World} {v : Value} {l : List Ent} (h : OwnE base w v l) (q : Q w w') (hb : base ≤ w.heap.size) : OwnE base w' v l := by
  obtain ⟨P, e, r, f⟩ := h
  exact ⟨P, e, r.on q, fun p hp => ⟨(f p hp).1, (f p hp).2.on q hb⟩⟩
theorem OwnE.len {base : Nat} {w : World} {v : Value} {l : List Ent} (h : OwnE base w v l) : ∃ A c, v = .slice A l.length c := by
  obtain ⟨P, rfl, r, -⟩ := h
  rw [List.length_map]
  rcases r.2 with ⟨rfl, h0⟩ | ⟨g, cap, cur, rfl, -⟩
  · exact ⟨none, 0, by rw [h0]⟩
  · exact ⟨_, _, rfl⟩
theorem RowE.ents {base : Nat} {w : World} {v : Value} {P : List (Ent × Value)} (r : RowE base w v P) (hb : base ≤ w.heap.size) (f : ∀ p ∈ P, p.1.key.size ≤ maxLen ∧ p.1.L.length ≤ maxLen ∧ Vers w w.heap.size p.2 p.1.L) : Ents w w.heap.size v (P.map (·.1)) := by
  have ok : ∀ x ∈ P.map (·.1), okE x := by
    intro x hx
    obtain ⟨p, hp, rfl⟩ := List.mem_map.1 hx
    exact ⟨(f p hp).1, (f p hp).2.1⟩
  rcases r.2 with ⟨rfl, h0⟩ | ⟨g, cap, cur, rfl, hb, hg, h1, h2, h3, h4⟩
  · rw [List.length_eq_zero_iff.1 h0]; exact Ents.nil _ _
  · refine ⟨some ⟨g, 0, none⟩, cap, by rw [List.length_map], by rw [List.length_map]; exact h1, (by simp), ok, fun k hk => ⟨⟨g, 0, none⟩, rfl, lt_of_block hg, ?_⟩⟩
    rw [List.length_map] at hk
    have hc : ∀ j, j < 2 → w.cell? ((⟨g, 0, none⟩ : Addr).add (k * 2 + j)) = (pcells P[k])[j]? := by
      intro j hj
      have := flat_atP P k hk hj
      obtain ⟨u, hu⟩ : ∃ u, (pcells P[k])[j]? = some u := ⟨_, List.getElem?_eq_getElem (by rw [show (pcells P[k]).length = 2 by rfl]; exact hj)⟩
      rw [hu] at this ⊢
      exact World.ownsRow.cells r (g := g) rfl _ _ this
    have ha : (⟨g, 0, none⟩ : Addr).add (k * 2 + 1) = ⟨((⟨g, 0, none⟩ : Addr).add (k * 2)).block, ((⟨g, 0, none⟩ : Addr).add (k * 2)).off + 1, none⟩ := by
      rw [add_pos _ (by omega), add_block]
      unfold Addr.add
      split
      · rename_i h0; simp [h0]
      · simp [Nat.add_assoc]
    rw [List.getElem_map]
    refine ⟨hc 0 (by omega), P[k].2, ?_, (f _ (List.getElem_mem hk)).2.2⟩
    rw [← ha]; exact hc 1 (by omega)
theorem OwnE.ents {base : Nat} {w : World} {v : Value} {l : List Ent} (h : OwnE base w v l) (hb : base ≤ w.heap.size) : Ents w w.heap.size v l := by
  obtain ⟨P, rfl, r, f⟩ := h
  exact r.ents hb fun p hp => ⟨(f p hp).1, (f p hp).2.2.1, (f p hp).2.vers hb⟩
theorem OwnE.shapes {base : Nat} {w : World} {P : List (Ent × Value)} (f : ∀ p ∈ P, p.1.key.size ≤ maxLen ∧ Apt base w p.2 p.1.L) : shapes P := fun p hp => (f p hp).2.shape
theorem RowE.onto {base k : Nat} {w2 : World} {v2 : Value} {P R : List (Ent × Value)} (h1 : w2.ownsRow base 61 2 v2 (P.length + k) (P.flatMap pcells ++ R.flatMap pcells)) (hk : k = R.length) : RowE base w2 v2 (P ++ R) := by
  subst hk
  unfold RowE
  rw [List.flatMap_append, List.length_append]
  exact h1
theorem rowE_grown {base : Nat} {w0 wr w2 : World} {v : Value} {P : List (Ent × Value)} (hbel : Below base w0 wr) (hb : base ≤ wr.heap.size) (hown : RowE base wr v P) (h2 : wr.grownBy w2 v.ownBlock) : Below base w0 w2 :=
  hbel.grown h2 hb (fun k hk => (World.ownsRow.lt hown k hk).1)
/-- An entry more. -/
theorem OwnE.snoc {base : Nat} {w w' : World} {v v' : Value} {P : List (Ent × Value)} {p : Ent × Value} (r : RowE base w v P) (f : ∀ q ∈ P, q.1.key.size ≤ maxLen ∧ Apt base w q.2 q.1.L) (hp : p.1.key.size ≤ maxLen) (ha : Apt base w p.2 p.1.L)
    (h1 : w'.ownsRow base 61 2 v' (P.length + 1) (P.flatMap pcells ++ pcells p)) (g : w.grownBy w' v.ownBlock) (hb : base ≤ w.heap.size) : OwnE base w' v' (P.map (·.1) ++ [p.1]) := by
  refine ⟨P ++ [p], by simp, RowE.onto (R := [p]) (by simpa using h1) rfl, fun q hq => ?_⟩
  rcases List.mem_append.1 hq with hq | hq
  · exact ⟨(f q hq).1, (f q hq).2.grown r g hb⟩
  · obtain rfl : q = p := by simpa using hq
    exact ⟨hp, ha.grown r g hb⟩
theorem cells_oneP (w : World) (p : Ent × Value) (t : TypeId) : ∀ j u, (pcells p)[j]? = some u → (w.alloc (.cells #[.string p.1.key, p.2] t)).cell? ((⟨w.heap.size, 0, none⟩ : Addr).add j) = some u := by
  intro j u hj
  obtain ⟨hj2, rfl⟩ := List.getElem?_eq_some_iff.1 hj
  match j, hj2 with
  | 0, _ => simp [Addr.add, pcells]
  | 1, _ => simp [Addr.add, pcells]
/-- All the cells of a slice of entries, with the values of their versions. -/
theorem Ents.flat {w : World} {B : Nat} {a : Addr} {n c : Nat} {l : List Ent} (h : Ents w B (.slice (some a) n c) l) :
    ∃ P : List (Ent × Value), P.map (·.1) = l ∧ (∀ p ∈ P, p.1.key.size ≤ maxLen ∧ p.1.L.length ≤ maxLen ∧ Vers w B p.2 p.1.L) ∧ ∀ j u, (P.flatMap pcells)[j]? = some u → w.cell? (a.add j) = some u := by
  obtain ⟨A, c', e, -, -, ok, f⟩ := h
  injection e with e1 e2 e3
  have each : ∀ i, i < l.length → ∃ p : Ent × Value, (∀ h : i < l.length, p.1 = l[i]) ∧ Vers w B p.2 p.1.L ∧ w.cell? (a.add (i * 2)) = some (.string p.1.key) ∧ w.cell? ⟨(a.add (i * 2)).block, (a.add (i * 2)).off + 1, none⟩ = some p.2 := by
    intro i hi
    obtain ⟨a', ea, -, h1, u, h2, h3⟩ := f i hi
    rw [← e1] at ea
    injection ea with ea
    subst ea
    exact ⟨(l[i], u), fun _ => rfl, h3, h1, h2⟩
  obtain ⟨P, hP, hp⟩ := list_of l.length each
  have hmap : P.map (·.1) = l := by
    refine List.ext_getElem (by rw [List.length_map, hP]) fun i h1 h2 => ?_
    rw [List.getElem_map]
    exact (hp i (by rw [hP]; exact h2)).1 h2
  refine ⟨P, hmap, fun p hm => ?_, fun j u hu => ?_⟩
  · obtain ⟨k, hk, rfl⟩ := List.getElem_of_mem hm
    have hmem : P[k].1 ∈ l := by rw [← hmap]; exact List.mem_map.2 ⟨_, hm, rfl⟩
    exact ⟨(ok _ hmem).1, (ok _ hmem).2, (hp k hk).2.1⟩
  · obtain ⟨hj, -⟩ := List.getElem?_eq_some_iff.1 hu
    rw [flat_pcells] at hj
    have hk : j / 2 < P.length := by omega
    have hj2 : j = j / 2 * 2 + j % 2 := by omega
    rw [hj2, flat_atP P _ hk (by omega)] at hu
    obtain ⟨-, -, c0, c1⟩ := hp (j / 2) hk
    have hr : j % 2 < 2 := by omega
    rw [hj2]
    match hm : j % 2, hr with
    | 0, _ => rw [hm] at hu; simp [pcells] at hu; rw [Nat.add_zero, c0, ← hu]
    | 1, _ =>
      rw [hm] at hu; simp [pcells] at hu
      have hadd : a.add (j / 2 * 2 + 1) = ⟨(a.add (j / 2 * 2)).block, (a.add (j / 2 * 2)).off + 1, none⟩ := by
        rw [add_pos _ (by omega), add_block]
        unfold Addr.add
        split
        · simp [*]
        · simp [Nat.add_assoc]
      rw [hadd, c1, ← hu]

theorem vers_cellE {H : Type} {enc : TypeId × Value → H} {W : World} {n : Nat} {v : Value} {y : DataW H × List MemPlace}
    (hf : DataW.trod enc Try.prog W 0 (fun _ => true) true n 59 [v] = some y) : ∃ l : List Ver, Vers W W.heap.size v l ∧ l.length ≤ maxLen := by
  rcases Deep.open_slice Try.underlying59 hf with ⟨hcs, hx⟩ | ⟨a, len', cap', m, n, D, Pl, hcs, _, hl, hm, hmm, hx, hel⟩
  · simp at hcs
    subst hcs
    exact ⟨[], Vers.nil _ _, by simp⟩
  · simp at hcs
    subst hcs
    have each : ∀ i, i < len' → ∃ x : Ver, okV x ∧ At W (a.add (i * 4)) x := by
      intro i hi
      obtain ⟨cs', h1, h2⟩ := hel i (by rw [hmm]; simp; omega)
      rw [cells_ver] at h1
      obtain ⟨-, hlen4, hcell⟩ := World.cells?_some h1
      obtain ⟨y0, y1, y2, y3, n', -, -, g0, g1, g2, g3⟩ := Joins.trod_struct4 Try.underlying63 h2
      obtain ⟨v0, v1, v2, v3, rfl⟩ : ∃ a b c d, cs' = [a, b, c, d] := by
        match cs', hlen4 with
        | [a, b, c, d], _ => exact ⟨a, b, c, d, rfl⟩
      have c0 : Try.prog.cellsOf 23 = 1 := by kernel_rfl
      have c1 : Try.prog.cellsOf 9 = 1 := by kernel_rfl
      have c2 : Try.prog.cellsOf 4 = 1 := by kernel_rfl
      have c3 : Try.prog.cellsOf 3 = 1 := by kernel_rfl
      simp [c0, c1, c2, c3] at g0 g1 g2 g3
      obtain ⟨i', e0, -, w0⟩ := DataW.trod_int Try.underlying23 g0
      obtain ⟨s', e1, -, w1⟩ := DataW.trod_string Try.underlying9 g1
      obtain ⟨m', e2, -⟩ := DataW.trod_bool Try.underlying4 g2
      obtain ⟨t', e3, -, w3⟩ := DataW.trod_int Try.underlying3 g3
      simp at e0 e1 e2 e3
      subst e0 e1 e2 e3
      obtain ⟨i', rfl, hi'⟩ := wfu64 w0
      refine ⟨⟨i', s', m', t'⟩, ⟨hi', w1, wf64 w3⟩, ?_, ?_, ?_, ?_⟩
      · exact hcell 0 (by omega)
      · exact (congrArg W.cell? (add_pos _ (by omega : 0 < 1)).symm).trans (hcell 1 (by omega))
      · exact (congrArg W.cell? (add_pos _ (by omega : 0 < 2)).symm).trans (hcell 2 (by omega))
      · exact (congrArg W.cell? (add_pos _ (by omega : 0 < 3)).symm).trans (hcell 3 (by omega))
    obtain ⟨l, hlen, hp⟩ := list_of len' each
    refine ⟨l, ⟨some a, cap', by rw [hlen], by omega, (by simp), ?_, fun k hk => ⟨a, rfl, ?_, (hp k hk).2⟩⟩, by omega⟩
    · intro x hx
      obtain ⟨k, hk, rfl⟩ := List.getElem_of_mem hx
      exact (hp k hk).1
    · have := World.block_lt_of_cell? W _ (hp k hk).2.1
      rw [add_block] at this; exact this
theorem ents_cell {H : Type} {enc : TypeId × Value → H} {W : World} {n : Nat} {v : Value} {y : DataW H × List MemPlace}
    (hf : DataW.trod enc Try.prog W 0 (fun _ => true) true n 22 [v] = some y) : ∃ l : List Ent, Ents W W.heap.size v l ∧ l.length ≤ maxLen := by
  rcases Deep.open_slice Try.underlying22 hf with ⟨hcs, hx⟩ | ⟨a, len', cap', m, n, D, Pl, hcs, _, hl, hm, hmm, hx, hel⟩
  · simp at hcs
    subst hcs
    exact ⟨[], Ents.nil _ _, by simp⟩
  · simp at hcs
    subst hcs
    have each : ∀ i, i < len' → ∃ x : Ent, okE x ∧ AtE W W.heap.size (a.add (i * 2)) x := by
      intro i hi
      obtain ⟨cs', h1, h2⟩ := hel i (by rw [hmm]; simp; omega)
      rw [cells_ent] at h1
      obtain ⟨-, hlen4, hcell⟩ := World.cells?_some h1
      obtain ⟨y0, y1, n', -, -, g0, g1⟩ := trod_struct2 Try.underlying61 h2
      obtain ⟨v0, v1, rfl⟩ : ∃ a b, cs' = [a, b] := by
        match cs', hlen4 with
        | [a, b], _ => exact ⟨a, b, rfl⟩
      have c1 : Try.prog.cellsOf 9 = 1 := by kernel_rfl
      have c2 : Try.prog.cellsOf 59 = 1 := by kernel_rfl
      simp [c1, c2] at g0 g1
      obtain ⟨s', e1, -, w1⟩ := DataW.trod_string Try.underlying9 g0
      simp at e1
      subst e1
      obtain ⟨L, hL, hm⟩ := vers_cellE g1
      refine ⟨⟨s', L⟩, ⟨w1, hm⟩, hcell 0 (by omega), v1, ?_, hL⟩
      exact (congrArg W.cell? (add_pos _ (by omega : 0 < 1)).symm).trans (hcell 1 (by omega))
    obtain ⟨l, hlen, hp⟩ := list_of len' each
    refine ⟨l, ⟨some a, cap', by rw [hlen], by omega, (by simp), ?_, fun k hk => ⟨a, rfl, ?_, (hp k hk).2⟩⟩, by omega⟩
    · intro x hx
      obtain ⟨k, hk, rfl⟩ := List.getElem_of_mem hx
      exact (hp k hk).1
    · have := World.block_lt_of_cell? W _ (hp k hk).2.1
      rw [add_block] at this; exact this
theorem open_ents {H : Type} {enc : TypeId × Value → H} {W : World} {b : Nat} {v : Value} {d : DataW H} {p : List MemPlace} (hv : Value.okWide Try.prog W .any b 22 v)
    (h : DataW.Trod enc Try.prog W 0 (fun _ => true) true 22 v d p) : ∃ l : List Ent, Ents W W.heap.size v l ∧ l.length ≤ maxLen := by
  obtain ⟨a0, len, cap, rfl⟩ := okWide_slice Try.underlying22 hv
  obtain ⟨fuel, hf⟩ := h
  exact ents_cell (by simpa [Value.cells] using hf)
/-- An entry by value. -/
def ent (key : ByteArray) (u : Value) : Value := .agg #[.string key, u]
theorem open_ent {H : Type} {enc : TypeId × Value → H} {W : World} {b0 : Nat} {v : Value} {d : DataW H} {p : List MemPlace} (hv : Value.okWide Try.prog W .any b0 61 v)
    (h : DataW.Trod enc Try.prog W 0 (fun _ => true) true 61 v d p) : ∃ (key : ByteArray) (u : Value) (L : List Ver), v = .agg #[.string key, u] ∧ key.size ≤ maxLen ∧ Vers W W.heap.size u L ∧ L.length ≤ maxLen := by
  obtain ⟨cs, rfl, hsz⟩ := okWide_struct Try.underlying61 hv
  rw [cells_ent] at hsz
  obtain ⟨v0, v1, rfl⟩ : ∃ a b, cs = #[a, b] := by
    obtain ⟨l⟩ := cs
    match l, hsz with
    | [a, b], _ => exact ⟨a, b, rfl⟩
  obtain ⟨fuel, hf⟩ := h
  obtain ⟨y0, y1, n', -, -, g0, g1⟩ := trod_struct2 Try.underlying61 hf
  have c1 : Try.prog.cellsOf 9 = 1 := by kernel_rfl
  have c2 : Try.prog.cellsOf 59 = 1 := by kernel_rfl
  simp [Value.cells, c1, c2] at g0 g1
  obtain ⟨s', e1, -, w1⟩ := DataW.trod_string Try.underlying9 g0
  simp at e1
  subst e1
  obtain ⟨L, hL, hm⟩ := vers_cellE g1
  exact ⟨s', v1, L, rfl, w1, hL, hm⟩
end Go.Proofs.Ytipipjpdlblifaa
