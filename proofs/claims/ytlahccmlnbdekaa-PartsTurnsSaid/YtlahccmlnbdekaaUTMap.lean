/-
  A map of one's own from numbers to octets: the parts of an upload, by their numbers. And what PartsTurns comes to, as plain facts.
-/
import Derived.Test.YtlahccmlnbdekaaUAwk
import Derived.Maps.Own
import Derived.Maps.OwnOps
import Derived.Maps.OwnSet
import Derived.Maps.Views
import Derived.Maps.StringElems
namespace Go.Proofs.Ytlahccmlnbdekaa
open Go.ChangeShapes Go.WideShapes Go.ChangeAt Go.RowKit
open Go.Maps (Keyed)
set_option linter.unusedVariables false
set_option linter.unusedSimpArgs false
set_option maxRecDepth 100000

theorem keyedI : Keyed Try.prog 3 := Maps.int_keyed Try.underlying3
def wfI (k : Int) : Prop := (Lit.int .i64 k).wf = true
/-- Block b is a map that has just the parts of L, each by its number. -/
def InT (b n : Nat) (L : List Prt) (w : World) : Prop :=
  ∃ D : DataW Unit, w.ownsMap Try.prog 3 (plainElem Try.prog 9) b n D ∧ ∀ k : Int, ((∀ p ∈ L, p.n ≠ k) → Maps.has D (.int .i64 k) = false) ∧ (∀ p ∈ L, p.n = k → Maps.has D (.int .i64 k) = true ∧ D.atKey (.int .i64 k) (.lit (.string [])) = .lit (.string p.data.data.toList))
theorem Q.grownN {w w' : World} (q : Q w w') : w.grownBy w' none := ⟨q.os, q.tape, q.output, q.size, fun i hi _ => q.block i hi⟩
theorem InT.made (w : World) : InT w.heap.size 0 [] (w.alloc (.map #[] 0)) := ⟨_, World.ownsMap_made w _ _ _, fun k => ⟨fun _ => rfl, fun p h => by cases h⟩⟩
theorem InT.on {b n : Nat} {L : List Prt} {w w' : World} (h : InT b n L w) (q : Q w w') : InT b n L w' := by
  obtain ⟨D, h1, h2⟩ := h
  exact ⟨D, h1.kept (Q.grownN q) (by simp), h2⟩
theorem InT.more {b n m : Nat} {L : List Prt} {w : World} (h : InT b n L w) (k : n ≤ m) : InT b m L w := by
  obtain ⟨D, h1, h2⟩ := h
  exact ⟨D, h1.mono k, h2⟩
theorem InT.cells {b n : Nat} {L : List Prt} {w w' : World} (h : InT b n L w) (g : w.grownBy w' (some b)) : ∀ (p : Addr) (v : Value), w.cell? p = some v → w'.cell? p = some v := by
  obtain ⟨D, ⟨es, clock, hb, -⟩, -⟩ := h
  intro p v hp
  have hne : p.block ≠ b := by
    intro e
    obtain ⟨B, o, x⟩ := p
    simp only at e
    subst e
    cases x <;> simp [World.cell?, hb] at hp
  have hlt : p.block < w.heap.size := by
    obtain ⟨B, o, x⟩ := p
    cases hB : w.heap[B]? with
    | none => cases x <;> simp [World.cell?, hB] at hp
    | some y => exact (Array.getElem?_eq_some_iff.1 hB).1
  rw [World.cell?_of_block (g.block p.block hlt (by simpa using hne))]
  exact hp
theorem AtP.same {w w' : World} {p : Addr} {v : Prt} (h : AtP w p v) (k : ∀ (p : Addr) (v : Value), w.cell? p = some v → w'.cell? p = some v) : AtP w' p v := ⟨k _ _ h.1, k _ _ h.2⟩
theorem Prts.same {w w' : World} {B : Nat} {v : Value} {l : List Prt} (h : Prts w B v l) (k : ∀ (p : Addr) (v : Value), w.cell? p = some v → w'.cell? p = some v) : Prts w' B v l := by
  obtain ⟨A, c, e, e0, ez, eo, f⟩ := h
  refine ⟨A, c, e, e0, ez, eo, fun i hi => ?_⟩
  obtain ⟨a, e1, e2, e3⟩ := f i hi
  exact ⟨a, e1, e2, e3.same k⟩
theorem Upls.same {w w' : World} {B : Nat} {v : Value} {l : List Upl} (h : Upls w B v l) (k : ∀ (p : Addr) (v : Value), w.cell? p = some v → w'.cell? p = some v) : Upls w' B v l := by
  obtain ⟨A, c, e, e0, ez, eo, f⟩ := h
  refine ⟨A, c, e, e0, ez, eo, fun i hi => ?_⟩
  obtain ⟨a, e1, e2, h0, h1, u, h2, h3⟩ := f i hi
  exact ⟨a, e1, e2, k _ _ h0, k _ _ h1, u, k _ _ h2, h3.same k⟩
theorem str_inj {s t : ByteArray} (h : s.data.toList = t.data.toList) : s = t := by
  cases s; cases t; congr 1; exact Array.toList_inj.1 h
theorem InT.yes {b n : Nat} {L : List Prt} {w : World} (h : InT b n L w) {p : Prt} (hp : p ∈ L) (hk : wfI p.n) : (Instr.lookup 61 (.map (some b)) (.int .i64 p.n) true).run Try.prog w = .ok (.tuple #[.string p.data, .bool true]) w := by
  obtain ⟨D, h1, h2⟩ := h
  obtain ⟨v, ps, hrun, hv⟩ := h1.look_ok keyedI Try.underlying61 (z := .string ⟨#[]⟩) (by rfl) (plainElem_string Try.underlying9 (s := ⟨#[]⟩) (by decide)) (Maps.keyOf_int_mk Try.underlying3 hk)
  obtain ⟨e1, e2⟩ := (h2 p.n).2 p hp rfl
  obtain ⟨s, rfl, hz, -⟩ := plainElem_string_inv Try.underlying9 hv
  rw [e1] at hrun
  have e3 : D.atKey (.int .i64 p.n) (.lit (.string [])) = .lit (.string s.data.toList) := (Prod.mk.inj hz).1
  rw [e2] at e3
  injection e3 with e3
  injection e3 with e3
  rw [str_inj e3]
  exact hrun
theorem InT.no {b n : Nat} {L : List Prt} {w : World} (h : InT b n L w) {k : Int} (hn : ∀ p ∈ L, p.n ≠ k) (hk : wfI k) : ∃ s : ByteArray, (Instr.lookup 61 (.map (some b)) (.int .i64 k) true).run Try.prog w = .ok (.tuple #[.string s, .bool false]) w := by
  obtain ⟨D, h1, h2⟩ := h
  obtain ⟨v, ps, hrun, hv⟩ := h1.look_ok keyedI Try.underlying61 (z := .string ⟨#[]⟩) (by rfl) (plainElem_string Try.underlying9 (s := ⟨#[]⟩) (by decide)) (Maps.keyOf_int_mk Try.underlying3 hk)
  rw [(h2 k).1 hn] at hrun
  obtain ⟨s, rfl, -, -⟩ := plainElem_string_inv Try.underlying9 hv
  exact ⟨s, hrun⟩
theorem mem_with {L : List Prt} {p x : Prt} : x ∈ withP L p ↔ (x ∈ L ∧ x.n ≠ p.n) ∨ x = p := by
  rw [withP, List.mem_append, List.mem_append, List.mem_filter, List.mem_filter, List.mem_singleton]
  simp only [decide_eq_true_eq]
  constructor
  · rintro ((⟨h1, h2⟩ | h) | ⟨h1, h2⟩)
    · exact .inl ⟨h1, by omega⟩
    · exact .inr h
    · exact .inl ⟨h1, by omega⟩
  · rintro (⟨h1, h2⟩ | h)
    · rcases Int.lt_or_gt_of_ne h2 with g | g
      · exact .inl (.inl ⟨h1, g⟩)
      · exact .inr ⟨h1, g⟩
    · exact .inl (.inr h)
/-- 'last[p.N] = p.Data' at the operation. -/
theorem wpList_inT_put {w : World} {ops : Array Oper} {rest : List Oper} {o : Oper} {a : Act} {Z : Exit → Act → World → Prop} {b n : Nat} {L : List Prt}
    (h : InT b n L w) (hg : o.guard = none) (m x v : Operand) (hop : o.op = Op.mapUpdate 61 m x v) (hn : n ≤ 1000000) (p : Prt) (hk : wfI p.n) (hz : p.data.size ≤ 5000)
    (hm : a.eval m = .map (some b)) (hx : a.eval x = .int .i64 p.n) (hv : a.eval v = .string p.data)
    (hK : ∀ w', InT b (n + 1) (withP L p) w' → w.grownBy w' (some b) → wpList Try.prog ops Z rest (a.put o.dst undef) w') :
    wpList Try.prog ops Z (o :: rest) a w := by
  obtain ⟨D, h1, h2⟩ := h
  refine wpList_mapUpdate_own w hg m x v 61 hop 3 9 keyedI Try.underlying61 _ b n D hm h1 (by unfold maxLen; omega) (.int .i64 p.n) (.string p.data) (.int .i64 p.n) hx hv
    (Maps.keyOf_int_mk Try.underlying3 hk) (.lit (.string p.data.data.toList)) [] (plainElem_string Try.underlying9 (by unfold maxLen; omega)) fun w' o' g => ?_
  refine hK w' ⟨_, o', fun k => ⟨fun hk' => ?_, fun q hq hqk => ?_⟩⟩ g
  · have hne : (Lit.int .i64 k) ≠ (Lit.int .i64 p.n) := by
      intro e; injection e with _ e
      exact hk' p (mem_with.2 (.inr rfl)) e.symm
    rw [Maps.has_put_other hne]
    exact (h2 k).1 fun y hy e => hk' y (mem_with.2 (.inl ⟨hy, fun e2 => hne (by rw [← e, e2])⟩)) e
  · rcases mem_with.1 hq with ⟨hq, hn⟩ | rfl
    · have hne : (Lit.int .i64 k) ≠ (Lit.int .i64 p.n) := by
        intro e; injection e with _ e
        exact hn (by omega)
      rw [Maps.has_put_other hne, Maps.atKey_put_other hne]
      exact (h2 k).2 q hq hqk
    · rw [← hqk]
      obtain ⟨es, clock, hb, F, hs, hD⟩ := h1
      exact ⟨Maps.has_put_same ⟨_, hD⟩ (by simp [WideAt.IsKeyLit]) _, Maps.atKey_put_same ⟨_, hD⟩ (by simp [WideAt.IsKeyLit]) _ _⟩
/-- What is there stays there while one's own map is written. -/
theorem Q.mapped {w0 w w' : World} {b : Nat} (q : Q w0 w) (g : w.grownBy w' (some b)) (hb : w0.heap.size ≤ b) : Q w0 w' :=
  Below.grown q g q.size (fun k e => by cases e; exact hb)

-- plain facts
def nineL (L : List Prt) : Prop := ∀ x ∈ L, 1 ≤ x.n ∧ x.n ≤ 9
theorem nine_with {L : List Prt} {p : Prt} (h : nineL L) (hp : 1 ≤ p.n ∧ p.n ≤ 9) : nineL (withP L p) := fun x hx => by
  rcases mem_with.1 hx with ⟨h1, -⟩ | rfl
  · exact h x h1
  · exact hp
theorem nine_few {L : List Prt} (h : okL L) (k : nineL L) : L.length ≤ 9 := by
  have h1 : (L.map (·.n)).length ≤ ([1, 2, 3, 4, 5, 6, 7, 8, 9] : List Int).length := by
    refine nodup_len _ _ ?_ ?_
    · rw [List.nodup_iff_pairwise_ne, List.pairwise_map]
      exact (okL_iff.1 h).2.imp fun h => by omega
    · intro x hx
      obtain ⟨y, hy, rfl⟩ := List.mem_map.1 hx
      have := k y hy
      simp only [List.mem_cons, List.not_mem_nil, or_false]
      omega
  simpa using h1
theorem ok_k7 : mayB 7 kK = true := by decide +kernel
theorem ok_7 {L : List Prt} (h : okL L) (k : nineL L) : okUps [⟨7, kK, L⟩] := by
  have := nine_few h k
  refine okUps_iff.2 ⟨by simp, fun x hx => ?_, by simp⟩
  obtain rfl : x = ⟨7, kK, L⟩ := by simpa using hx
  exact ⟨ok_k7, by show L.length ≤ 30; omega, h⟩
theorem bg7 : BeginC [] 7 kK [⟨7, kK, []⟩] 0 := .yes ⟨by simp, fun i hi => absurd hi (by simp)⟩ ok_k7 (by simp) (by simp)
theorem lay_7 {L : List Prt} {p : Prt} (h : okL L) (k : nineL L) (hp : mayP p = true) (hn : 1 ≤ p.n ∧ p.n ≤ 9) : LayC [⟨7, kK, L⟩] 7 p [⟨7, kK, withP L p⟩] (crc (bl p.data)) 0 := by
  have := nine_few (okL_with h hp) (nine_with k hn)
  exact .yes 0 (by simp) (ok_7 h k) hp rfl (fun j hj => by omega) (by show ¬ 30 < (withP L p).length; omega)
theorem lay_7no {L : List Prt} {p : Prt} (hp : mayP p = false) : LayC [⟨7, kK, L⟩] 7 p [] 0 1 := .arg fun k => by rw [hp] at k; simp at k
theorem find_7 {L : List Prt} (h : okL L) (k : nineL L) : FindC [⟨7, kK, L⟩] 7 ⟨7, kK, L⟩ 0 := .yes 0 (by simp) (ok_7 h k) rfl (fun j hj => by omega)
/-- The parts of less number than n, as pieces, and as octets. -/
def upTo (L : List Prt) (n : Int) : List Prt := L.filter fun x => decide (x.n < n)
noncomputable def pcs (L : List Prt) : List Pce := L.map fun p => ⟨p.n, crc (bl p.data)⟩
def dats (L : List Prt) : List UInt8 := L.flatMap fun p => bl p.data
theorem upTo_one {L : List Prt} (k : nineL L) : upTo L 1 = [] := List.filter_eq_nil_iff.2 fun x hx h => by
  have := k x hx; simp at h; omega
theorem upTo_all {L : List Prt} (k : nineL L) : upTo L 10 = L := List.filter_eq_self.2 fun x hx => by
  have := k x hx; simp; omega
theorem upTo_no {L : List Prt} {n : Int} (h : ∀ p ∈ L, p.n ≠ n) : upTo L (n + 1) = upTo L n := List.filter_congr fun x hx => by
  have := h x hx
  rw [decide_eq_decide]; omega
theorem upTo_yes {L : List Prt} (h : okL L) {p : Prt} (hp : p ∈ L) : upTo L (p.n + 1) = upTo L p.n ++ [p] := by
  obtain ⟨i, hi, rfl⟩ := List.getElem_of_mem hp
  rw [upTo, upTo, filt_take h (i := i) (by omega) (fun j hj => okL_lt h j i hj hi) (fun _ => by omega),
    filt_take h (i := i + 1) (by omega) (fun j hj => ?_) (fun h2 => by have := okL_lt h i (i + 1) (by omega) h2; omega), List.take_succ_eq_append_getElem hi]
  rcases Nat.lt_or_ge j i with g | g
  · have := okL_lt h j i g hi; omega
  · have : j = i := by omega
    subst this; omega
theorem part_find (L : List Prt) (n : Int) : (∃ p ∈ L, p.n = n) ∨ (∀ p ∈ L, p.n ≠ n) := by
  by_cases h : ∃ p ∈ L, p.n = n
  · exact .inl h
  · exact .inr fun p hp e => h ⟨p, hp, e⟩
/-- Is there a part that is too short, with another one behind it? -/
def shT (L : List Prt) (n : Int) : Prop := ∃ p ∈ L, p.n < n ∧ p.data.size < 5 ∧ ∃ q ∈ L, p.n < q.n
def behind (L : List Prt) (n k : Int) : Prop := ∃ q ∈ L, n < q.n ∧ q.n < k
theorem shT_no {L : List Prt} {n : Int} (h : ∀ p ∈ L, p.n ≠ n) : shT L (n + 1) ↔ shT L n := by
  constructor
  · rintro ⟨p, hp, h1, h2⟩
    have := h p hp
    exact ⟨p, hp, by omega, h2⟩
  · rintro ⟨p, hp, h1, h2⟩
    exact ⟨p, hp, by omega, h2⟩
theorem one_part {L : List Prt} (h : okL L) {p q : Prt} (hp : p ∈ L) (hq : q ∈ L) (e : p.n = q.n) : p = q := by
  obtain ⟨i, hi, rfl⟩ := List.getElem_of_mem hp
  obtain ⟨j, hj, rfl⟩ := List.getElem_of_mem hq
  rcases Nat.lt_trichotomy i j with g | g | g
  · have := okL_lt h i j g hj; omega
  · subst g; rfl
  · have := okL_lt h j i g hi; omega
theorem shT_yes {L : List Prt} (h : okL L) (k : nineL L) {p : Prt} (hp : p ∈ L) : shT L (p.n + 1) ↔ shT L p.n ∨ (p.data.size < 5 ∧ behind L p.n 10) := by
  constructor
  · rintro ⟨q, hq, h1, h2, y, hy, h3⟩
    by_cases e : q.n = p.n
    · obtain rfl := one_part h hq hp e
      have := k y hy
      exact .inr ⟨h2, y, hy, h3, by omega⟩
    · exact .inl ⟨q, hq, by omega, h2, y, hy, h3⟩
  · rintro (⟨q, hq, h1, h2⟩ | ⟨h1, y, hy, h2, -⟩)
    · exact ⟨q, hq, by omega, h2⟩
    · exact ⟨p, hp, by omega, h1, y, hy, h2⟩
theorem behind_0 {L : List Prt} {n : Int} : ¬ behind L n (n + 1) := by rintro ⟨q, -, h1, h2⟩; omega
theorem behind_yes {L : List Prt} {n k : Int} {q : Prt} (hq : q ∈ L) (e : q.n = k) (h : n < k) : behind L n (k + 1) := ⟨q, hq, by omega, by omega⟩
theorem behind_no {L : List Prt} {n k : Int} (h : ∀ q ∈ L, q.n ≠ k) : behind L n (k + 1) ↔ behind L n k := by
  constructor
  · rintro ⟨q, hq, h1, h2⟩
    have := h q hq
    exact ⟨q, hq, h1, by omega⟩
  · rintro ⟨q, hq, h1, h2⟩
    exact ⟨q, hq, h1, by omega⟩
theorem dats_size {L : List Prt} (h : okL L) : (dats L).length ≤ 2000 * L.length := by
  have hs : ∀ x ∈ L, (bl x.data).length ≤ 2000 := fun x hx => by
    have := (mayP_iff.1 ((okL_iff.1 h).1 x hx)).2.2
    rw [bl_length]; exact this
  clear h
  induction L with
  | nil => simp [dats]
  | cons a r ih =>
    have h1 := hs a (by simp)
    have h2 := ih fun x hx => hs x (by simp [hx])
    rw [dats, List.flatMap_cons, List.length_append, List.length_cons]
    rw [dats] at h2
    omega
theorem flat_prt {f g : Prt → List UInt8} : ∀ l : List Prt, (∀ x ∈ l, f x = g x) → l.flatMap f = l.flatMap g
  | [], _ => rfl
  | a :: r, h => by rw [List.flatMap_cons, List.flatMap_cons, h a (by simp), flat_prt r (fun x hx => h x (by simp [hx]))]
/-- What Whole answers of the pieces of all parts. -/
theorem whole_7 {L : List Prt} (h : okL L) (k : nineL L) {sh : Bool} (hs : sh = true ↔ shT L 10) :
    ∃ t, WholeC ⟨7, kK, L⟩ (pcs L) (if L = [] then [] else if sh = true then [] else if 2000 < (dats L).length then [] else dats L) t (if L = [] then 1 else if sh = true then 3 else if 2000 < (dats L).length then 6 else 0) := by
  have hU : okUp ⟨7, kK, L⟩ := (okUps_iff.1 (ok_7 h k)).2.1 _ (by simp)
  have hlen : (pcs L).length = L.length := by rw [pcs, List.length_map]
  by_cases h0 : L = []
  · rw [if_pos h0, if_pos h0]
    exact ⟨_, .arg fun g => by have := g.2; rw [hlen, h0] at this; simp at this⟩
  · rw [if_neg h0, if_neg h0]
    have h1 : 1 ≤ (pcs L).length := by
      rw [hlen]
      rcases L with _ | ⟨a, r⟩
      · exact absurd rfl h0
      · simp
    have hr : riseP (pcs L) := fun i hi => by
      rw [hlen] at hi
      have := okL_lt h i (i + 1) (by omega) hi
      simpa [pcs] using this
    have hP : ∀ i (hi : i < L.length), PartC L L[i].n L[i] true := fun i hi => .yes i hi rfl fun j hj hl e => by have := okL_lt h j i hj hi; omega
    have hk : (pcs L).any (lackB L) = false := by
      rw [List.any_eq_false]
      intro x hx
      obtain ⟨p, hp, rfl⟩ := List.mem_map.1 hx
      obtain ⟨i, hi, rfl⟩ := List.getElem_of_mem hp
      rw [lb_of (hP i hi)]; simp
    have hd : catB L (pcs L) = dats L := by
      rw [catB, pcs, dats, List.flatMap_map]
      have : ∀ p ∈ L, bl (partD L p.n) = bl p.data := fun p hp => by
        obtain ⟨i, hi, rfl⟩ := List.getElem_of_mem hp
        rw [partD_is (hP i hi)]
      exact flat_prt L this
    have hso : sh = ((pcs L).take ((pcs L).length - 1)).any (lackO L) := by
      rw [Bool.eq_iff_iff, hs, List.any_eq_true]
      constructor
      · rintro ⟨p, hp, -, h5, q, hq, hpq⟩
        obtain ⟨i, hi, rfl⟩ := List.getElem_of_mem hp
        obtain ⟨j, hj, rfl⟩ := List.getElem_of_mem hq
        have hij : i < j := by
          rcases Nat.lt_trichotomy i j with g | g | g
          · exact g
          · subst g; omega
          · have := okL_lt h j i g hi; omega
        have hi2 : i < ((pcs L).take ((pcs L).length - 1)).length := by rw [List.length_take, hlen]; omega
        refine ⟨_, List.getElem_mem hi2, ?_⟩
        rw [List.getElem_take]
        have e : (pcs L)[i]'(by rw [hlen]; exact hi) = ⟨L[i].n, crc (bl L[i].data)⟩ := by simp [pcs]
        rw [e, lackO_is (x := ⟨L[i].n, crc (bl L[i].data)⟩) (hP i hi)]
        simpa using h5
      · rintro ⟨x, hx, ho⟩
        obtain ⟨i, hi, rfl⟩ := List.getElem_of_mem hx
        rw [List.length_take, hlen] at hi
        rw [List.getElem_take] at ho
        have hiL : i < L.length := by omega
        have e : (pcs L)[i]'(by rw [hlen]; exact hiL) = ⟨L[i].n, crc (bl L[i].data)⟩ := by simp [pcs]
        rw [e, lackO_is (x := ⟨L[i].n, crc (bl L[i].data)⟩) (hP i hiL)] at ho
        have h9 := k _ (List.getElem_mem hiL)
        exact ⟨L[i], List.getElem_mem _, by omega, by simpa using ho, L[i + 1]'(by omega), List.getElem_mem _, okL_lt h i (i + 1) (by omega) (by omega)⟩
    cases sh with
    | true => simp only [↓reduceIte]; exact ⟨_, .short hU h1 hr hk hso.symm⟩
    | false =>
      simp only [Bool.false_eq_true, ↓reduceIte]
      by_cases h2 : 2000 < (dats L).length
      · rw [if_pos h2, if_pos h2]; exact ⟨_, .large hU h1 hr hk hso.symm (by show 2000 < (catB L (pcs L)).length; rw [hd]; exact h2)⟩
      · rw [if_neg h2, if_neg h2]
        have := WholeC.yes hU h1 hr hk hso.symm (by show ¬ 2000 < (catB L (pcs L)).length; rw [hd]; exact h2)
        simp only at this
        rw [hd] at this
        exact ⟨_, this⟩
end Go.Proofs.Ytlahccmlnbdekaa
