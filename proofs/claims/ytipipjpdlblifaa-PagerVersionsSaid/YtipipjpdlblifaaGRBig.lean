/-
  Plain facts on the rows of an index, and their pages. Slices of rows, as they lie in memory. Contract of the document's Same of rows, where they are the same. Contract of the document's All: all rows of an index. Contract of the document's Rows. The iterator of an index's rows. Contract of the program's Rows. The program's Rows, whatever is asked.
-/
import Derived.Test.YtipipjpdlblifaaGMath
import Derived.Test.YtipipjpdlblifaaEnt
import Derived.Test.YtipipjpdlblifaaVSame
import Derived.Test.YtipipjpdlblifaaGPlain
import Derived.Test.YtipipjpdlblifaaGBox
import Derived.Deep.DeepCutAuto
import Derived.Deep.RegionHeld3
import Derived.Test.YtipipjpdlblifaaGMay
import Derived.Test.YtipipjpdlblifaaGCut
namespace Go.Proofs.Ytipipjpdlblifaa
open Go.ChangeShapes Go.WideShapes Go.ChangeAt Go.RowKit
set_option linter.unusedVariables false
set_option linter.unusedSimpArgs false

structure Rw where
  key : ByteArray
  id : Nat
  latest : Bool
  mark : Bool
  size : Nat
/-- Version i of an entry, as a row. -/
def rwAt (e : Ent) (i : Nat) (v : Ver) : Rw := ⟨e.key, v.id, decide (i = 0), v.mark, v.data.size⟩
def rowsE (e : Ent) : List Rw := e.L.mapIdx (rwAt e)
theorem rowsE_len (e : Ent) : (rowsE e).length = e.L.length := by simp [rowsE]
theorem rowsE_get (e : Ent) {i : Nat} (h : i < e.L.length) : (rowsE e)[i]'(by rw [rowsE_len]; exact h) = rwAt e i e.L[i] := by simp [rowsE]
theorem rowsE_take (e : Ent) {i : Nat} (h : i < e.L.length) : (rowsE e).take (i + 1) = (rowsE e).take i ++ [rwAt e i e.L[i]] := by
  rw [List.take_succ_eq_append_getElem (by rw [rowsE_len]; exact h), rowsE_get e h]
/-- The rows of an index under a prefix. -/
def rowsO (p : ByteArray) (l : List Ent) : List Rw := l.flatMap fun e => if underO e.key p then rowsE e else []
theorem rowsO_zero (p : ByteArray) (l : List Ent) : rowsO p (l.take 0) = [] := rfl
theorem rowsO_yes {p : ByteArray} {l : List Ent} {i : Nat} (h : i < l.length) (u : underO l[i].key p = true) : rowsO p (l.take (i + 1)) = rowsO p (l.take i) ++ rowsE l[i] := by
  rw [List.take_succ_eq_append_getElem h]; unfold rowsO; rw [List.flatMap_append, List.flatMap_singleton, u]; simp
theorem rowsO_no {p : ByteArray} {l : List Ent} {i : Nat} (h : i < l.length) (u : underO l[i].key p = false) : rowsO p (l.take (i + 1)) = rowsO p (l.take i) := by
  rw [List.take_succ_eq_append_getElem h]; unfold rowsO; rw [List.flatMap_append, List.flatMap_singleton, u]; simp
theorem rowsO_pre (p : ByteArray) (l : List Ent) (i : Nat) : rowsO p (l.take i) <+: rowsO p l := by
  refine ⟨rowsO p (l.drop i), ?_⟩
  unfold rowsO
  rw [← List.flatMap_append, List.take_append_drop]
/-- The same key and ID? -/
def isR (key : ByteArray) (id : Nat) (r : Rw) : Bool := decide (r.key = key) && decide (r.id = id)
def bhB (key : ByteArray) (id : Nat) (T : List Rw) : Bool := decide (key.size = 0) || T.any (isR key id)
def bhL (key : ByteArray) (id : Nat) (T : List Rw) : List Rw := if key.size = 0 then T else (T.dropWhile fun r => !isR key id r).drop 1
theorem bhB_snoc (key : ByteArray) (id : Nat) (T : List Rw) (r : Rw) : bhB key id (T ++ [r]) = (bhB key id T || isR key id r) := by
  unfold bhB; rw [List.any_append]; cases decide (key.size = 0) <;> simp
theorem dw_any {α : Type} {f : α → Bool} : ∀ {T : List α}, T.any f = true → ∀ r, (T ++ [r]).dropWhile (fun x => !f x) = T.dropWhile (fun x => !f x) ++ [r] ∧ T.dropWhile (fun x => !f x) ≠ []
  | [], h, _ => by simp at h
  | x :: T, h, r => by
    cases hx : f x with
    | true => simp [List.dropWhile_cons, hx]
    | false =>
      have h2 : T.any f = true := by simpa [hx] using h
      have := dw_any h2 r
      simpa [List.dropWhile_cons, hx] using this
theorem dw_none {α : Type} {f : α → Bool} : ∀ {T : List α}, T.any f = false → ∀ r, (T ++ [r]).dropWhile (fun x => !f x) = (if f r then [r] else []) ∧ T.dropWhile (fun x => !f x) = []
  | [], _, r => by cases h : f r <;> simp [List.dropWhile_cons, h]
  | x :: T, h, r => by
    have hx : f x = false := by simp only [List.any_cons, Bool.or_eq_false_iff] at h; exact h.1
    have h2 : T.any f = false := by simp only [List.any_cons, Bool.or_eq_false_iff] at h; exact h.2
    have := dw_none h2 r
    simpa [List.dropWhile_cons, hx] using this
theorem bhL_yes {key : ByteArray} {id : Nat} {T : List Rw} {r : Rw} (h : bhB key id T = true) : bhL key id (T ++ [r]) = bhL key id T ++ [r] := by
  unfold bhL
  by_cases k : key.size = 0
  · rw [if_pos k, if_pos k]
  · rw [if_neg k, if_neg k]
    have h2 : T.any (isR key id) = true := by unfold bhB at h; simpa [k] using h
    obtain ⟨e, ne⟩ := dw_any h2 r
    rw [e, List.drop_append_of_le_length (by cases q : T.dropWhile (fun x => !isR key id x) with | nil => exact absurd q ne | cons => simp)]
theorem bhL_no {key : ByteArray} {id : Nat} {T : List Rw} {r : Rw} (h : bhB key id T = false) : bhL key id (T ++ [r]) = [] ∧ bhL key id T = [] := by
  unfold bhB at h
  simp only [Bool.or_eq_false_iff, decide_eq_false_iff_not] at h
  unfold bhL
  rw [if_neg h.1, if_neg h.1]
  obtain ⟨e1, e2⟩ := dw_none h.2 r
  rw [e1, e2]
  cases isR key id r <;> simp
theorem bhL_nil (key : ByteArray) (id : Nat) : bhL key id [] = [] := by unfold bhL; split <;> rfl
/-- A key and ID are those of one row at the most. -/
def OneR (T : List Rw) : Prop := T.Pairwise fun a b => ¬ (a.key = b.key ∧ a.id = b.id)
/-- Where the document's loop says that the page begins. -/
def frm (key : ByteArray) (id : Nat) (T : List Rw) : Nat → Nat
  | 0 => 0
  | i + 1 => match T[i]? with | some r => if isR key id r then i + 1 else frm key id T i | none => frm key id T i
theorem frm_hit {key : ByteArray} {id : Nat} {T : List Rw} {i : Nat} (h : i < T.length) (r : isR key id T[i] = true) : frm key id T (i + 1) = i + 1 := by
  simp [frm, List.getElem?_eq_getElem h, r]
theorem frm_miss {key : ByteArray} {id : Nat} {T : List Rw} {i : Nat} (h : i < T.length) (r : isR key id T[i] = false) : frm key id T (i + 1) = frm key id T i := by
  simp [frm, List.getElem?_eq_getElem h, r]
theorem frm_le {key : ByteArray} {id : Nat} {T : List Rw} : ∀ i, frm key id T i ≤ i
  | 0 => Nat.le_refl _
  | i + 1 => by
    have := frm_le (key := key) (id := id) (T := T) i
    simp only [frm]
    split
    · split
      · exact Nat.le_refl _
      · omega
    · omega
theorem isR_iff {key : ByteArray} {id : Nat} {r : Rw} : isR key id r = true ↔ r.key = key ∧ r.id = id := by simp [isR]
/-- The document's beginning is the program's. -/
theorem frm_is {key : ByteArray} {id : Nat} {T : List Rw} (hu : OneR T) (hk : ¬ key.size = 0) : ∀ i, i ≤ T.length → (bhB key id (T.take i) = decide (0 < frm key id T i)) ∧ (0 < frm key id T i → bhL key id (T.take i) = (T.take i).drop (frm key id T i)) := by
  intro i
  induction i with
  | zero => intro _; exact ⟨by simp [bhB, hk, frm], fun h => by simp [frm] at h⟩
  | succ i ih =>
    intro hi
    obtain ⟨a, b⟩ := ih (by omega)
    have hlt : i < T.length := by omega
    have tk : T.take (i + 1) = T.take i ++ [T[i]] := List.take_succ_eq_append_getElem hlt
    have fl := frm_le (key := key) (id := id) (T := T) i
    rw [tk, bhB_snoc]
    cases r : isR key id T[i] with
    | true =>
      rw [frm_hit hlt r]
      refine ⟨by simp, fun _ => ?_⟩
      -- none ahead of it
      have no : bhB key id (T.take i) = false := by
        unfold bhB
        simp only [Bool.or_eq_false_iff, decide_eq_false_iff_not]
        refine ⟨hk, ?_⟩
        rw [Bool.eq_false_iff]
        intro h
        obtain ⟨x, hx, hr⟩ := List.any_eq_true.1 h
        obtain ⟨j, hj, rfl⟩ := List.getElem_of_mem hx
        rw [List.length_take] at hj
        rw [List.getElem_take] at hr
        obtain ⟨r1, r2⟩ := isR_iff.1 r
        obtain ⟨x1, x2⟩ := isR_iff.1 hr
        exact (List.pairwise_iff_getElem.1 hu) j i (by omega) hlt (by omega) ⟨x1.trans r1.symm, x2.trans r2.symm⟩
      rw [(bhL_no no).1, List.drop_of_length_le (by simp; omega)]
    | false =>
      rw [frm_miss hlt r, Bool.or_false]
      refine ⟨a, fun h => ?_⟩
      have y : bhB key id (T.take i) = true := by rw [a, decide_eq_true h]
      rw [bhL_yes y, b h, List.drop_append_of_le_length (by rw [List.length_take]; omega)]
theorem ids_apart {x y : Ver} (h : pairBad x y = false) : x.id ≠ y.id := by
  unfold pairBad at h
  intro e
  split at h
  · simp at h; omega
  · split at h
    · omega
    · simp at h; omega
theorem rowsE_mem {e : Ent} {r : Rw} (h : r ∈ rowsE e) : ∃ i, ∃ hi : i < e.L.length, r = rwAt e i e.L[i] := by
  obtain ⟨i, hi, rfl⟩ := List.getElem_of_mem h
  rw [rowsE_len] at hi
  exact ⟨i, hi, rowsE_get e hi⟩
theorem rows_one {p : ByteArray} {l : List Ent} (hr : l.Pairwise (fun x y => ltB x.key y.key = true)) (hk : ∀ e ∈ l, ∀ i j (hi : i < j) (hj : j < e.L.length), pairBad (e.L[i]'(by omega)) e.L[j] = false) : OneR (rowsO p l) := by
  unfold OneR rowsO
  rw [List.pairwise_flatMap]
  refine ⟨fun e he => ?_, ?_⟩
  · split
    · refine List.pairwise_iff_getElem.2 fun i j hi hj hij => ?_
      rw [rowsE_len] at hi hj
      rw [rowsE_get e hi, rowsE_get e hj]
      rintro ⟨-, h⟩
      exact ids_apart (hk e he i j hij hj) h
    · exact List.Pairwise.nil
  · refine hr.imp fun {a b} hab x hx y hy => ?_
    split at hx
    · split at hy
      · obtain ⟨i, hi, rfl⟩ := rowsE_mem hx
        obtain ⟨j, hj, rfl⟩ := rowsE_mem hy
        rintro ⟨h, -⟩
        change a.key = b.key at h
        rw [h, ltB_irrefl] at hab; cases hab
      · cases hy
    · cases hx
theorem rows_len {p : ByteArray} {l : List Ent} {n : Nat} (h : ∀ e ∈ l, e.L.length ≤ n) : (rowsO p l).length ≤ l.length * n := by
  induction l with
  | nil => simp [rowsO]
  | cons e l ih =>
    have h1 := ih fun x hx => h x (List.mem_cons_of_mem _ hx)
    have h2 := h e (by simp)
    have h3 := rowsE_len e
    have e1 : rowsO p (e :: l) = (if underO e.key p = true then rowsE e else []) ++ rowsO p l := rfl
    rw [e1, List.length_append, List.length_cons, Nat.succ_mul]
    split
    · omega
    · simp; omega
/-- A page of rows: the rows, whether there are more, and the error's number. -/
def rowsPg (key : ByteArray) (id most : Nat) (T : List Rw) : List Rw × Bool × Nat :=
  if bhB key id T then ((bhL key id T).take most, decide (most < (bhL key id T).length), 0) else ([], false, 4)
theorem rowsPg_no {key : ByteArray} {id most : Nat} {T : List Rw} (h : bhB key id T = false) : rowsPg key id most T = ([], false, 4) := by simp [rowsPg, h]
theorem rowsPg_all {key : ByteArray} {id most : Nat} {T : List Rw} (h : bhB key id T = true) (k : (bhL key id T).length ≤ most) : rowsPg key id most T = (bhL key id T, false, 0) := by
  simp only [rowsPg, h, if_true, List.take_of_length_le k]
  congr 2
  simp; omega
theorem bhL_more {key : ByteArray} {id : Nat} : ∀ {r T : List Rw}, bhB key id T = true → bhL key id (T ++ r) = bhL key id T ++ r := by
  intro r
  induction r with
  | nil => intro T h; simp
  | cons x r ih =>
    intro T h
    have e : T ++ x :: r = (T ++ [x]) ++ r := by simp
    rw [e, ih (by rw [bhB_snoc, h]; rfl), bhL_yes h]; simp
theorem bhB_more {key : ByteArray} {id : Nat} {r T : List Rw} (h : bhB key id T = true) : bhB key id (T ++ r) = true := by
  unfold bhB at *
  rw [List.any_append]
  cases q : decide (key.size = 0) with
  | true => rfl
  | false => rw [q] at h; simp only [Bool.false_or] at h; rw [h]; rfl
theorem rowsPg_more {key : ByteArray} {id most : Nat} {T pre : List Rw} {x : Rw} (h : pre ++ [x] <+: T) (hb : bhB key id pre = true) (hm : (bhL key id pre).length = most) : rowsPg key id most T = (bhL key id pre, true, 0) := by
  obtain ⟨r, rfl⟩ := h
  have e : pre ++ [x] ++ r = pre ++ (x :: r) := by simp
  rw [e, rowsPg, bhB_more hb, bhL_more hb]
  simp [← hm]
/-- The document's page. -/
theorem rowsPg_doc {key : ByteArray} {id most : Nat} {T : List Rw} (hu : OneR T) (hk : ¬ key.size = 0) :
    rowsPg key id most T = (if frm key id T T.length = 0 then ([], false, 4) else ((T.drop (frm key id T T.length)).take most, decide (frm key id T T.length + most < T.length), 0)) := by
  obtain ⟨a, b⟩ := frm_is hu hk T.length (Nat.le_refl _)
  rw [List.take_length] at a b
  unfold rowsPg
  rw [a]
  by_cases h : frm key id T T.length = 0
  · simp [h]
  · have h2 : 0 < frm key id T T.length := by omega
    simp only [h2, decide_true, if_true, if_neg h]
    rw [b h2]
    congr 2
    rw [List.length_drop]
    congr 1
    simp only [eq_iff_iff]
    omega
theorem rowsPg_first {key : ByteArray} {id most : Nat} {T : List Rw} (hk : key.size = 0) : rowsPg key id most T = (T.take most, decide (most < T.length), 0) := by
  simp [rowsPg, bhB, bhL, hk]
end Go.Proofs.Ytipipjpdlblifaa

namespace Go.Proofs.Ytipipjpdlblifaa
open Go.ChangeShapes Go.WideShapes Go.ChangeAt Go.RowKit
set_option linter.unusedVariables false
set_option linter.unusedSimpArgs false

def rcells (r : Rw) : List Value := [.string r.key, .int .u64 (r.id : Nat), .bool r.latest, .bool r.mark, .int .i64 (r.size : Nat)]
/-- A row lies at p. -/
def RAt (w : World) (p : Addr) (r : Rw) : Prop :=
  w.cell? p = some (.string r.key) ∧ w.cell? ⟨p.block, p.off + 1, none⟩ = some (.int .u64 (r.id : Nat)) ∧ w.cell? ⟨p.block, p.off + 2, none⟩ = some (.bool r.latest) ∧ w.cell? ⟨p.block, p.off + 3, none⟩ = some (.bool r.mark) ∧ w.cell? ⟨p.block, p.off + 4, none⟩ = some (.int .i64 (r.size : Nat))
/-- A slice whose elements are these rows; all of it lies below block B. -/
def RowsV (w : World) (B : Nat) (v : Value) (l : List Rw) : Prop :=
  ∃ A c, v = .slice A l.length c ∧ l.length ≤ c ∧ ∀ k (h : k < l.length), ∃ a : Addr, A = some a ∧ a.block < B ∧ RAt w (a.add (k * 5)) l[k]
theorem RAt.keep {w w' : World} {p : Addr} {v : Rw} (h : RAt w p v) {B : Nat} (hp : p.block < B) (k : ∀ p : Addr, p.block < B → w'.cell? p = w.cell? p) : RAt w' p v :=
  ⟨(k p hp).trans h.1, (k ⟨p.block, p.off + 1, none⟩ hp).trans h.2.1, (k ⟨p.block, p.off + 2, none⟩ hp).trans h.2.2.1, (k ⟨p.block, p.off + 3, none⟩ hp).trans h.2.2.2.1, (k ⟨p.block, p.off + 4, none⟩ hp).trans h.2.2.2.2⟩
theorem RowsV.keep {w w' : World} {B : Nat} {v : Value} {l : List Rw} (h : RowsV w B v l) (k : ∀ p : Addr, p.block < B → w'.cell? p = w.cell? p) : RowsV w' B v l := by
  obtain ⟨A, c, e, e0, f⟩ := h
  refine ⟨A, c, e, e0, fun i hi => ?_⟩
  obtain ⟨a, e1, e2, e3⟩ := f i hi
  exact ⟨a, e1, e2, e3.keep (by rw [add_block]; exact e2) k⟩
theorem RowsV.below {w w' : World} {B : Nat} {v : Value} {l : List Rw} (h : RowsV w B v l) (k : Below B w w') : RowsV w' B v l := h.keep fun _ hp => k.cell hp
theorem RowsV.more {w : World} {B B' : Nat} {v : Value} {l : List Rw} (h : RowsV w B v l) (k : B ≤ B') : RowsV w B' v l := by
  obtain ⟨A, c, e, e0, f⟩ := h
  refine ⟨A, c, e, e0, fun i hi => ?_⟩
  obtain ⟨a, e1, e2, e3⟩ := f i hi
  exact ⟨a, e1, by omega, e3⟩
theorem RowsV.on {w w' : World} {v : Value} {l : List Rw} (h : RowsV w w.heap.size v l) (k : Q w w') : RowsV w' w'.heap.size v l := (h.below k).more k.size
theorem RowsV.nil (w : World) (B : Nat) : RowsV w B (.slice none 0 0) [] := ⟨none, 0, rfl, Nat.le_refl _, fun k h => absurd h (by simp)⟩
theorem RowsV.form {w : World} {B : Nat} {v : Value} {l : List Rw} (h : RowsV w B v l) : ∃ A c, v = .slice A l.length c := by
  obtain ⟨A, c, e, -⟩ := h; exact ⟨A, c, e⟩
theorem cells_row : Try.prog.cellsOf 55 = 5 := by kernel_rfl
theorem info_row : (Try.prog.info? 55).map (fun i => (i.zero, i.size, i.bytes)) = some (some (.agg #[.string ⟨#[]⟩, .int .u64 0, .bool false, .bool false, .int .i64 0]), 5, 40) := by kernel_rfl
/-- v is a row of the call's own, from block base on, of these rows. -/
def OwnW (base : Nat) (w : World) (v : Value) (l : List Rw) : Prop := w.ownsRow base 55 5 v l.length (l.flatMap rcells)
theorem OwnW.nil (base : Nat) (w : World) : OwnW base w (.slice none 0 0) [] := World.ownsRow_nil w _ _ _
theorem flat_rcells (l : List Rw) : (l.flatMap rcells).length = l.length * 5 := by
  induction l with
  | nil => rfl
  | cons x r ih => rw [List.flatMap_cons, List.length_append, ih, List.length_cons, show (rcells x).length = 5 by rfl]; omega
theorem flat_atR (l : List Rw) (k : Nat) (h : k < l.length) {j : Nat} (hj : j < 5) : (l.flatMap rcells)[k * 5 + j]? = (rcells l[k])[j]? := by
  induction l generalizing k with
  | nil => simp at h
  | cons x r ih =>
    rw [List.flatMap_cons]
    cases k with
    | zero => rw [List.getElem?_append_left (by rw [show (rcells x).length = 5 by rfl]; omega)]; simp
    | succ k =>
      rw [List.getElem?_append_right (by rw [show (rcells x).length = 5 by rfl]; omega), show (k + 1) * 5 + j - (rcells x).length = k * 5 + j by rw [show (rcells x).length = 5 by rfl]; omega, ih k (by simpa using h)]
      rfl
theorem OwnW.rows {base : Nat} {w : World} {v : Value} {l : List Rw} (h : OwnW base w v l) : RowsV w w.heap.size v l := by
  rcases h.2 with ⟨rfl, h0⟩ | ⟨g, cap, cur, rfl, hb, hg, h1, h2, h3, h4⟩
  · rw [List.length_eq_zero_iff.1 h0]; exact RowsV.nil _ _
  · refine ⟨_, _, rfl, h1, fun k hk => ⟨⟨g, 0, none⟩, rfl, lt_of_block hg, ?_⟩⟩
    have hc : ∀ j, j < 5 → w.cell? ((⟨g, 0, none⟩ : Addr).add (k * 5 + j)) = (rcells l[k])[j]? := by
      intro j hj
      have := flat_atR l k hk hj
      obtain ⟨u, hu⟩ : ∃ u, (rcells l[k])[j]? = some u := ⟨_, List.getElem?_eq_getElem (by rw [show (rcells l[k]).length = 5 by rfl]; exact hj)⟩
      rw [hu] at this ⊢
      exact World.ownsRow.cells h (g := g) rfl _ _ this
    have ha : ∀ j, 0 < j → (⟨g, 0, none⟩ : Addr).add (k * 5 + j) = ⟨((⟨g, 0, none⟩ : Addr).add (k * 5)).block, ((⟨g, 0, none⟩ : Addr).add (k * 5)).off + j, none⟩ := by
      intro j hj
      rw [add_pos _ (by omega), add_block]
      unfold Addr.add
      split
      · rename_i h0; simp [h0]
      · simp [Nat.add_assoc]
    refine ⟨hc 0 (by omega), ?_, ?_, ?_, ?_⟩
    · rw [← ha 1 (by omega)]; exact hc 1 (by omega)
    · rw [← ha 2 (by omega)]; exact hc 2 (by omega)
    · rw [← ha 3 (by omega)]; exact hc 3 (by omega)
    · rw [← ha 4 (by omega)]; exact hc 4 (by omega)
theorem OwnW.on {base : Nat} {w w' : World} {v : Value} {l : List Rw} (h : OwnW base w v l) (q : Q w w') : OwnW base w' v l := by
  rcases h.2 with ⟨rfl, h0⟩ | ⟨g, cap, cur, rfl, hb, hg, h1, h2, h3, h4⟩
  · exact ⟨h.1, .inl ⟨rfl, h0⟩⟩
  · exact ⟨h.1, .inr ⟨g, cap, cur, rfl, hb, (q.block g (lt_of_block hg)).trans hg, h1, h2, h3, h4⟩⟩
theorem OwnW.form {base : Nat} {w : World} {v : Value} {l : List Rw} (h : OwnW base w v l) : ∃ A c, v = .slice A l.length c := by
  rcases h.2 with ⟨rfl, h0⟩ | ⟨g, cap, cur, rfl, -⟩
  · exact ⟨none, 0, by rw [h0]⟩
  · exact ⟨_, _, rfl⟩
theorem rcells_one (x : Rw) : ∀ u ∈ rcells x, u.oneCell' = true := by
  intro u hu
  simp [rcells] at hu
  rcases hu with rfl | rfl | rfl | rfl | rfl <;> rfl
theorem flat_oneR (l : List Rw) : ∀ u ∈ l.flatMap rcells, u.oneCell' = true := by
  intro u hu
  obtain ⟨x, -, hx⟩ := List.mem_flatMap.1 hu
  exact rcells_one x u hx
theorem OwnW.onto {base k : Nat} {w2 : World} {v2 : Value} {L M : List Rw} (h1 : w2.ownsRow base 55 5 v2 (L.length + k) (L.flatMap rcells ++ M.flatMap rcells)) (hk : k = M.length) : OwnW base w2 v2 (L ++ M) := by
  subst hk
  unfold OwnW
  rw [List.flatMap_append, List.length_append]
  exact h1
theorem ownW_grown {base : Nat} {w0 wr w2 : World} {v : Value} {L : List Rw} (hbel : Below base w0 wr) (hb : base ≤ wr.heap.size) (hown : OwnW base wr v L) (h2 : wr.grownBy w2 v.ownBlock) : Below base w0 w2 :=
  hbel.grown h2 hb (fun k hk => (World.ownsRow.lt hown k hk).1)
end Go.Proofs.Ytipipjpdlblifaa

namespace Go.Proofs.Ytipipjpdlblifaa
open Go.ChangeShapes Go.WideShapes Go.ChangeAt Go.RowKit
set_option linter.unusedVariables false
set_option linter.unusedSimpArgs false

set_option maxHeartbeats 2000000 in
theorem sameR_yes (a : List Rw) (va vb : Value) (w : World) (hl : a.length ≤ 2000) (ha : RowsV w w.heap.size va a) (hb : RowsV w w.heap.size vb a) :
    Calls Try.prog 20 #[va, vb] w fun e w' => e = .returned (.bool true) ∧ Q w w' := by
  obtain ⟨A, c, rfl, -, hca⟩ := ha
  obtain ⟨B, c', rfl, -, hcb⟩ := hb
  have HA := Lib.hid hca
  have HB := Lib.hid hcb
  clear hca hcb
  go_enter Try.func20, Try.ntmps20
  go_wp2_with fail
  go_loopw [5] (fun I wr => ∃ i : Nat, i ≤ a.length ∧ I = .int .i64 i ∧ D w wr) (fun I _ => a.length - (intOf I).toNat)
  case atStart => exact ⟨0, Nat.zero_le _, rfl, D.refl _⟩
  case round =>
    obtain ⟨i, hil, rfl, d⟩ := hrel
    by_cases hlt : i < a.length
    · obtain ⟨p, rfl, hp, hat⟩ := HA.out i hlt
      obtain ⟨q, rfl, hq, hbt⟩ := HB.out i hlt
      obtain ⟨m, rfl⟩ := d
      obtain ⟨c0, c1, c2, c3, c4⟩ := hat
      obtain ⟨d0, d1, d2, d3, d4⟩ := hbt
      have h2 : (i : Int) < (a.length : Int) := by omega
      obtain ⟨x, hx⟩ : ∃ x, x = a[i] := ⟨_, rfl⟩
      rw [← hx] at c0 c1 c2 c3 c4 d0 d1 d2 d3 d4
      clear hx
      go_wp2_with fail
      go_region
      go_wp2
      go_roundw
      case rel => exact ⟨i + 1, by omega, by go_num, ⟨m + 1, by simp [Nat.add_comm]⟩⟩
      case measure => simp [intOf]; omega
    · obtain rfl : i = a.length := by omega
      go_wp2
      go_ret
      exact ⟨rfl, d.q⟩
end Go.Proofs.Ytipipjpdlblifaa

namespace Go.Proofs.Ytipipjpdlblifaa
open Go.ChangeShapes Go.WideShapes Go.ChangeAt Go.RowKit
set_option linter.unusedVariables false
set_option linter.unusedSimpArgs false

theorem cells_oneR (w : World) (r : Rw) (t : TypeId) : ∀ j u, (rcells r)[j]? = some u → (w.alloc (.cells (rcells r).toArray t)).cell? ((⟨w.heap.size, 0, none⟩ : Addr).add j) = some u := by
  intro j u hj
  obtain ⟨hj2, rfl⟩ := List.getElem?_eq_some_iff.1 hj
  match j, hj2 with
  | 0, _ => simp [Addr.add, rcells]
  | 1, _ => simp [Addr.add, rcells]
  | 2, _ => simp [Addr.add, rcells]
  | 3, _ => simp [Addr.add, rcells]
  | 4, _ => simp [Addr.add, rcells]
/-- One more row behind rows of one's own. -/
theorem ownW_snoc {base : Nat} {w0 wr w2 : World} {v v' : Value} {L : List Rw} {r : Rw} {o : Obj} (hr : OwnW base wr v L) (h1 : w2.ownsRow base 55 5 v' (L.length + 1) (L.flatMap rcells ++ rcells r)) (h2 : (wr.alloc o).grownBy w2 v.ownBlock) (q : Below base w0 wr) (hb : base ≤ wr.heap.size) :
    OwnW base w2 v' (L ++ [r]) ∧ Below base w0 w2 :=
  ⟨OwnW.onto (M := [r]) (by simpa using h1) rfl, ownW_grown (q.alloc hb _) (by simp; omega) (hr.on ((Q.refl wr).alloc _)) h2⟩

theorem ownW_keeps {base B : Nat} {wr X w4 : World} {v : Value} {L : List Rw} (hr : OwnW base wr v L) (hB : B = wr.heap.size) (hX : B < X.heap.size) (g : X.grownBy w4 v.ownBlock) : w4.heap[B]? = X.heap[B]? :=
  g.block B hX (fun e => by have := (World.ownsRow.lt hr B e.symm).2; omega)

set_option maxHeartbeats 2000000 in
theorem rall_any (l : List Ent) (v : Value) (p : ByteArray) (w : World) (hl : l.length ≤ 60) (hL : ∀ e ∈ l, e.L.length ≤ 20) (hs : Small l) (hp : p.size ≤ 1000) (ht : Ents w w.heap.size v l) :
    Calls Try.prog 37 #[v, .string p] w fun e w' => ∃ A c, e = .returned (.slice A (rowsO p l).length c) ∧ RowsV w' w'.heap.size (.slice A (rowsO p l).length c) (rowsO p l) ∧ Q w w' := by
  obtain ⟨i0, hi, hz0, hz1, hz2⟩ := info_parts info_row
  obtain ⟨AA, cc, rfl⟩ := ht.form
  have HT := Lib.hid ht
  have HS := Lib.hid hs
  have HL := Lib.hid hL
  have HRL := Lib.hid (fun i => rows_len (p := p) (l := l.take i) (n := 20) (fun e he => hL e (List.mem_of_mem_take he)))
  clear ht hs hL
  go_enter Try.func37, Try.ntmps37
  go_wp2_with fail
  go_loopw [5, 6] (fun O I wr => ∃ i : Nat, i ≤ l.length ∧ I = .int .i64 i ∧ OwnW w.heap.size wr O (rowsO p (l.take i)) ∧ Q w wr) (fun _ I _ => l.length - (intOf I).toNat)
  case atStart => exact ⟨0, Nat.zero_le _, rfl, OwnW.nil _ _, Q.refl _⟩
  case round =>
    obtain ⟨i, hil, rfl, hown, q⟩ := hrel
    by_cases hlt : i < l.length
    · obtain ⟨a, c', hv, ha, A2, c2, hvs, hat⟩ := HT.out.pick i hlt
      injection hv with e1 e2 e3
      subst e1 e3
      have hok := (HS.out.2 _ (List.getElem_mem hlt)).1
      have hvl := HL.out _ (List.getElem_mem hlt)
      have hrl := HRL.out i
      have hilt : (i : Int) < (l.length : Int) := by omega
      have YES := Lib.hid (rowsO_yes (p := p) hlt)
      have NO := Lib.hid (rowsO_no (p := p) hlt)
      obtain ⟨S, hS⟩ : ∃ S, S = rowsO p (l.take i) := ⟨_, rfl⟩
      rw [← hS] at hown YES NO hrl
      have hSl : S.length ≤ 2000 := by rw [List.length_take] at hrl; omega
      obtain ⟨S2, hS2⟩ : ∃ S2, S2 = rowsO p (l.take (i + 1)) := ⟨_, rfl⟩
      rw [← hS2] at YES NO
      have HS2 := Lib.hid hS2
      have HAT := Lib.hid hat
      obtain ⟨x, hx⟩ : ∃ x, x = l[i] := ⟨_, rfl⟩
      rw [← hx] at hvs hok hvl YES NO HAT
      obtain ⟨un, hun⟩ : ∃ un, un = underO x.key p := ⟨_, rfl⟩
      have U := Lib.hid fun b => runder_any x.key p b hok hp
      rw [← hun] at U YES NO
      have HV := Lib.hid hvs
      clear hx hat hS hS2 hun hvs hrl
      go_wp2_with fail
      go_loopw [5, 7] (fun O J wr2 => ∃ k : Nat, k ≤ x.L.length ∧ J = .int .i64 k ∧ OwnW w.heap.size wr2 O (S ++ (rowsE x).take k) ∧ (un = false → k = 0) ∧ Q w wr2) (fun _ J _ => x.L.length - (intOf J).toNat)
      case atStart => exact ⟨0, Nat.zero_le _, rfl, by rw [List.take_zero, List.append_nil]; exact hown, (fun _ => rfl), q⟩
      clear hown q
      case round =>
        obtain ⟨k, hk, rfl, hown, hun0, q⟩ := hrel
        have HUN := Lib.hid hun0
        obtain ⟨d0, d1⟩ := HAT.out _ q
        clear hun0
        by_cases hkl : k < x.L.length
        · have hkl2 : (k : Int) < (x.L.length : Int) := by omega
          cases un with
          | false =>
            obtain rfl := HUN.out rfl
            rw [List.take_zero, List.append_nil, ← NO.out rfl] at hown
            have HO := Lib.hid hown
            clear hown
            go_wp2_with fail
            refine (U.out _).mono ?_
            rintro e w3 ⟨rfl, rfl⟩
            go_wp2
            go_roundw
            case rel => exact ⟨i + 1, hlt, by go_num, by rw [← HS2.out]; exact HO.out, q⟩
            case measure => simp [intOf]; omega
          | true =>
            obtain ⟨A3, c3, hv3, -, -, hok3, f3⟩ := HV.out
            injection hv3 with g1 g2 g3
            subst g1 g3
            clear g2
            obtain ⟨a3, rfl, hb3, hat3⟩ := f3 k hkl
            obtain ⟨v0, v1, v2, v3⟩ := hat3.keep (w' := _) (B := w.heap.size) (by rw [add_block]; exact hb3) (fun _ h => Below.cell q h)
            have hz := (hok3 _ (List.getElem_mem hkl)).2.1
            have HTK := Lib.hid (rowsE_take x hkl)
            obtain ⟨y, hy⟩ : ∃ y, y = x.L[k] := ⟨_, rfl⟩
            rw [← hy] at v0 v1 v2 v3 hz HTK
            obtain ⟨M, hM⟩ : ∃ M, M = S ++ (rowsE x).take k := ⟨_, rfl⟩
            have hMl : M.length ≤ 3000 := by rw [hM, List.length_append, List.length_take]; omega
            rw [← hM] at hown
            obtain ⟨A5, c5, rfl⟩ := hown.form
            have HNEW : Hid (S ++ (rowsE x).take (k + 1) = M ++ [rwAt x k y]) := Lib.hid (by rw [HTK.out, hM, List.append_assoc])
            have bV := Bx.new wr 63 #[.int .u64 (y.id : Nat), .string y.data, .bool y.mark, .int .i64 y.tm]
            have qW := (Q.refl wr).alloc (.cells #[.int .u64 (y.id : Nat), .string y.data, .bool y.mark, .int .i64 y.tm] 63)
            obtain ⟨W, hW⟩ : ∃ W, W = wr.alloc (.cells #[.int .u64 (y.id : Nat), .string y.data, .bool y.mark, .int .i64 y.tm] 63) := ⟨_, rfl⟩
            rw [← hW] at bV qW
            have HW := Lib.hid hW
            have HOW := Lib.hid (hown.on qW)
            have HO5 := Lib.hid hown
            have qwW := q.trans qW
            obtain ⟨s0, s1⟩ := HAT.out _ qwW
            have y0 := bV.cell 0
            have y1 := bV.cell 1
            have y2 := bV.cell 2
            simp only [List.getElem?_toArray, List.getElem?_cons_zero, List.getElem?_cons_succ] at y0 y1 y2
            have hWb := qwW.size
            clear hy hM hW f3 hat3 hok3 hown HTK
            by_cases hk0 : k = 0
            · have z1 : ((k : Int) == 0) = true := by simp [hk0]
              have hR : Hid (rwAt x k y = ⟨x.key, y.id, true, y.mark, y.data.size⟩) := Lib.hid (by simp [rwAt, hk0])
              clear hk0
              go_wp2_with fail
              refine (U.out _).mono ?_
              rintro e w3 ⟨rfl, rfl⟩
              go_upto_region 9 with fail
              rw [← HW.out]
              refine wp_region_held_drew (S := (fun x' => Bx x' wr.heap.size 63 #[.int .u64 (y.id : Nat), .string y.data, .bool y.mark, .int .i64 y.tm] ∧ x'.cell? (a.add (i * 2)) = some (.string x.key) ∧ Below w.heap.size w x')) (by kernel_rfl) ⟨bV, s0, Below.drew qwW⟩ (fun hHeld => ?_)
              refine wpAnyH_take (i := 0) (oi := _) (v := ?_) rfl (by kernel_rfl) (by kernel_rfl) (by kernel_rfl) (fun _ _ _ h => h) (Or.inl ⟨by rfl, ?_⟩) (by assumption) ?_
              rotate_left
              · (intro wx hSw; (try dsimp only at hSw); go_simp; (try with_reducible rfl))
              (try simp only [Act.put, List.getElem_toArray, List.getElem_cons_zero, List.getElem_cons_succ, List.setIfInBounds_toArray, List.set_cons_zero, List.set_cons_succ])
              refine wpAnyH_take (i := 1) (oi := _) (v := ?_) rfl (by kernel_rfl) (by kernel_rfl) (by kernel_rfl) (fun _ _ _ h => h) (Or.inl ⟨by rfl, ?_⟩) (by assumption) ?_
              rotate_left
              · (intro wx hSw; (try dsimp only at hSw); go_simp; (try with_reducible rfl))
              (try simp only [Act.put, List.getElem_toArray, List.getElem_cons_zero, List.getElem_cons_succ, List.setIfInBounds_toArray, List.set_cons_zero, List.set_cons_succ])
              refine wpAnyH_take (i := 2) (oi := _) (v := ?_) rfl (by kernel_rfl) (by kernel_rfl) (by kernel_rfl) (fun _ _ _ h => h) (Or.inl ⟨by rfl, ?_⟩) (by assumption) ?_
              rotate_left
              · (intro wx hSw; (try dsimp only at hSw); go_simp; (try with_reducible rfl))
              (try simp only [Act.put, List.getElem_toArray, List.getElem_cons_zero, List.getElem_cons_succ, List.setIfInBounds_toArray, List.set_cons_zero, List.set_cons_succ])
              refine wpAnyH_take (i := 3) (oi := _) (v := ?_) rfl (by kernel_rfl) (by kernel_rfl) (by kernel_rfl) (fun _ _ _ h => h) (Or.inl ⟨by rfl, ?_⟩) (by assumption) ?_
              rotate_left
              · (intro wx hSw; (try dsimp only at hSw); go_simp; (try with_reducible rfl))
              (try simp only [Act.put, List.getElem_toArray, List.getElem_cons_zero, List.getElem_cons_succ, List.setIfInBounds_toArray, List.set_cons_zero, List.set_cons_succ])
              refine wpAnyH_take (i := 4) (oi := _) (v := ?_) rfl (by kernel_rfl) (by kernel_rfl) (by kernel_rfl) (fun _ _ _ h => h) (Or.inl ⟨by rfl, ?_⟩) (by assumption) ?_
              rotate_left
              · (intro wx hSw; (try dsimp only at hSw); go_simp; (try with_reducible rfl))
              (try simp only [Act.put, List.getElem_toArray, List.getElem_cons_zero, List.getElem_cons_succ, List.setIfInBounds_toArray, List.set_cons_zero, List.set_cons_succ])
              refine wpAnyH_take (i := 5) (oi := _) (v := ?_) rfl (by kernel_rfl) (by kernel_rfl) (by kernel_rfl) (fun _ _ _ h => h) (Or.inl ⟨by rfl, ?_⟩) (by assumption) ?_
              rotate_left
              · (intro wx hSw; (try dsimp only at hSw); have hy := hSw.2.1; go_simp; (try with_reducible rfl))
              (try simp only [Act.put, List.getElem_toArray, List.getElem_cons_zero, List.getElem_cons_succ, List.setIfInBounds_toArray, List.set_cons_zero, List.set_cons_succ])
              refine wpAnyH_take (i := 6) (oi := _) (v := ?_) rfl (by kernel_rfl) (by kernel_rfl) (by kernel_rfl) (fun _ _ _ h => h) (Or.inl ⟨by rfl, ?_⟩) (by assumption) ?_
              rotate_left
              · (intro wx hSw; (try dsimp only at hSw); go_simp; (try with_reducible rfl))
              (try simp only [Act.put, List.getElem_toArray, List.getElem_cons_zero, List.getElem_cons_succ, List.setIfInBounds_toArray, List.set_cons_zero, List.set_cons_succ])
              refine wpAnyH_take (i := 7) (oi := _) (v := ?_) rfl (by kernel_rfl) (by kernel_rfl) (by kernel_rfl) (fun _ _ _ h => h) (Or.inl ⟨by rfl, ?_⟩) (by assumption) ?_
              rotate_left
              · (intro wx hSw; (try dsimp only at hSw); have hy := hSw.1.cell 0; simp only [List.getElem?_toArray, List.getElem?_cons_zero, List.getElem?_cons_succ] at hy; go_simp; (try with_reducible rfl))
              (try simp only [Act.put, List.getElem_toArray, List.getElem_cons_zero, List.getElem_cons_succ, List.setIfInBounds_toArray, List.set_cons_zero, List.set_cons_succ])
              refine wpAnyH_take (i := 8) (oi := _) (v := ?_) rfl (by kernel_rfl) (by kernel_rfl) (by kernel_rfl) (fun _ _ _ h => h) (Or.inl ⟨by rfl, ?_⟩) (by assumption) ?_
              rotate_left
              · (intro wx hSw; (try dsimp only at hSw); go_simp; (try with_reducible rfl))
              (try simp only [Act.put, List.getElem_toArray, List.getElem_cons_zero, List.getElem_cons_succ, List.setIfInBounds_toArray, List.set_cons_zero, List.set_cons_succ])
              refine wpAnyH_take (i := 9) (oi := _) (v := .bool true) rfl (by kernel_rfl) (by kernel_rfl) (by kernel_rfl) (fun _ _ _ h => h) (Or.inl ⟨by rfl, ?_⟩) (by assumption) ?_
              · (intro wx hSw; (try dsimp only at hSw); go_simp; (try omega); (try simp [*]); (try omega))
              (try simp only [Act.put, List.getElem_toArray, List.getElem_cons_zero, List.getElem_cons_succ, List.setIfInBounds_toArray, List.set_cons_zero, List.set_cons_succ])
              refine wpAnyH_take (i := 10) (oi := _) (v := ?_) rfl (by kernel_rfl) (by kernel_rfl) (by kernel_rfl) (fun _ _ _ h => h) (Or.inl ⟨by rfl, ?_⟩) (by assumption) ?_
              rotate_left
              · (intro wx hSw; (try dsimp only at hSw); go_simp; (try with_reducible rfl))
              (try simp only [Act.put, List.getElem_toArray, List.getElem_cons_zero, List.getElem_cons_succ, List.setIfInBounds_toArray, List.set_cons_zero, List.set_cons_succ])
              refine wpAnyH_take (i := 11) (oi := _) (v := ?_) rfl (by kernel_rfl) (by kernel_rfl) (by kernel_rfl) (fun _ _ _ h => h) (Or.inl ⟨by rfl, ?_⟩) (by assumption) ?_
              rotate_left
              · (intro wx hSw; (try dsimp only at hSw); have hy := hSw.1.cell 2; simp only [List.getElem?_toArray, List.getElem?_cons_zero, List.getElem?_cons_succ] at hy; go_simp; (try with_reducible rfl))
              (try simp only [Act.put, List.getElem_toArray, List.getElem_cons_zero, List.getElem_cons_succ, List.setIfInBounds_toArray, List.set_cons_zero, List.set_cons_succ])
              refine wpAnyH_take (i := 12) (oi := _) (v := ?_) rfl (by kernel_rfl) (by kernel_rfl) (by kernel_rfl) (fun _ _ _ h => h) (Or.inl ⟨by rfl, ?_⟩) (by assumption) ?_
              rotate_left
              · (intro wx hSw; (try dsimp only at hSw); go_simp; (try with_reducible rfl))
              (try simp only [Act.put, List.getElem_toArray, List.getElem_cons_zero, List.getElem_cons_succ, List.setIfInBounds_toArray, List.set_cons_zero, List.set_cons_succ])
              refine wpAnyH_take (i := 13) (oi := _) (v := ?_) rfl (by kernel_rfl) (by kernel_rfl) (by kernel_rfl) (fun _ _ _ h => h) (Or.inl ⟨by rfl, ?_⟩) (by assumption) ?_
              rotate_left
              · (intro wx hSw; (try dsimp only at hSw); have hy := hSw.1.cell 1; simp only [List.getElem?_toArray, List.getElem?_cons_zero, List.getElem?_cons_succ] at hy; go_simp; (try with_reducible rfl))
              (try simp only [Act.put, List.getElem_toArray, List.getElem_cons_zero, List.getElem_cons_succ, List.setIfInBounds_toArray, List.set_cons_zero, List.set_cons_succ])
              refine wpAnyH_take (i := 14) (oi := _) (v := ?_) rfl (by kernel_rfl) (by kernel_rfl) (by kernel_rfl) (fun _ _ _ h => h) (Or.inl ⟨by rfl, ?_⟩) (by assumption) ?_
              rotate_left
              · (intro wx hSw; (try dsimp only at hSw); go_simp; (try with_reducible rfl))
              (try simp only [Act.put, List.getElem_toArray, List.getElem_cons_zero, List.getElem_cons_succ, List.setIfInBounds_toArray, List.set_cons_zero, List.set_cons_succ])
              refine wpAnyH_take (i := 15) (oi := _) (v := ?_) rfl (by kernel_rfl) (by kernel_rfl) (by kernel_rfl) (fun _ _ _ h => h) (Or.inl ⟨by rfl, ?_⟩) (by assumption) ?_
              rotate_left
              · (intro wx hSw; (try dsimp only at hSw); go_simp; (try with_reducible rfl))
              (try simp only [Act.put, List.getElem_toArray, List.getElem_cons_zero, List.getElem_cons_succ, List.setIfInBounds_toArray, List.set_cons_zero, List.set_cons_succ])
              refine wpAnyH_ready (rs := [16]) (by kernel_rfl) (by simp) ?_
              refine AllReadyH.cons (o := _) rfl (fun K hK => ?_) AllReadyH.nil
              go_simp
              refine hK.out _ _ ⟨hHeld.1.alloc _, (((Q.refl _).alloc _).cell (World.block_lt_of_cell? _ _ hHeld.2.1)).trans hHeld.2.1, Below.alloc hHeld.2.2 hWb _⟩ (fun hHeld2 => ?_)
              clear hK K
              (try simp only [Act.put, List.getElem_toArray, List.getElem_cons_zero, List.getElem_cons_succ, List.setIfInBounds_toArray, List.set_cons_zero, List.set_cons_succ])
              refine wpAnyH_ready (rs := [17]) (by kernel_rfl) (by simp) ?_
              refine AllReadyH.cons (o := _) rfl (fun K hK => ?_) AllReadyH.nil
              rw [if_pos (by rfl)]
              refine wp_append_lies _ (.tmp 42) (.tmp 58) 41 rfl w.heap.size 55 i0 (.agg #[.string ⟨#[]⟩, .int .u64 0, .bool false, .bool false, .int .i64 0]) 5 40 Try.underlying41 hi hz0 hz1 hz2 rfl (by decide) (.slice A5 M.length c5) M.length (M.flatMap rcells) (by rfl) (HOW.out.on (((Q.refl _).drew).alloc _)) ⟨W.heap.size, 0, none⟩ 1 1 (rcells ⟨x.key, y.id, true, y.mark, y.data.size⟩) (by rfl) rfl (fun j u h => cells_oneR W.drew ⟨x.key, y.id, true, y.mark, y.data.size⟩ _ j u h) (rcells_one _) (by decide) (by unfold maxLen; omega) (by omega) (by simp; omega) _ rfl ?_
              intro g cap w4 hown' hgrow hat' hlt4
              have o4 := ownW_snoc (wr := W.drew) (HOW.out.on (Q.refl _).drew) hown' hgrow (Below.drew qwW) hWb
              have kb := ownW_keeps HO5.out (B := wr.heap.size) rfl (X := (W.drew).alloc _) (by have := bV.lt; simp; omega) hgrow
              refine hK.out _ _ ⟨hHeld2.1.same kb, ?_, o4.2⟩ (fun hHeld3 => ?_)
              · exact (HAT.out _ o4.2).1
              clear hK K kb
              (try simp only [Act.put, List.getElem_toArray, List.getElem_cons_zero, List.getElem_cons_succ, List.setIfInBounds_toArray, List.set_cons_zero, List.set_cons_succ])
              refine wpAnyH_take (i := 18) (oi := _) (v := ?_) rfl (by kernel_rfl) (by kernel_rfl) (by kernel_rfl) (fun _ _ _ h => h) (Or.inl ⟨by rfl, ?_⟩) (by assumption) ?_
              rotate_left
              · (intro wx hSw; (try dsimp only at hSw); go_simp; (try with_reducible rfl))
              (try simp only [Act.put, List.getElem_toArray, List.getElem_cons_zero, List.getElem_cons_succ, List.setIfInBounds_toArray, List.set_cons_zero, List.set_cons_succ])
              refine wpAnyH_done (by kernel_rfl) ?_ _
              have O4 := Lib.hid o4
              clear o4 hown' hgrow hat' hHeld hHeld2 hHeld3
              go_wp2
              go_roundw
              case rel => exact ⟨k + 1, hkl, by go_num, by rw [HNEW.out, hR.out]; exact O4.out.1, (fun h => by cases h), O4.out.2⟩
              case measure => simp [intOf]; omega
            · have z1 : ((k : Int) == 0) = false := by simp; omega
              have hR : Hid (rwAt x k y = ⟨x.key, y.id, false, y.mark, y.data.size⟩) := Lib.hid (by simp [rwAt, hk0])
              have z2 : ¬ (k : Int) = 0 := by omega
              clear hk0
              go_wp2_with fail
              refine (U.out _).mono ?_
              rintro e w3 ⟨rfl, rfl⟩
              go_upto_region 9 with fail
              rw [← HW.out]
              refine wp_region_held_drew (S := (fun x' => Bx x' wr.heap.size 63 #[.int .u64 (y.id : Nat), .string y.data, .bool y.mark, .int .i64 y.tm] ∧ x'.cell? (a.add (i * 2)) = some (.string x.key) ∧ Below w.heap.size w x')) (by kernel_rfl) ⟨bV, s0, Below.drew qwW⟩ (fun hHeld => ?_)
              refine wpAnyH_take (i := 0) (oi := _) (v := ?_) rfl (by kernel_rfl) (by kernel_rfl) (by kernel_rfl) (fun _ _ _ h => h) (Or.inl ⟨by rfl, ?_⟩) (by assumption) ?_
              rotate_left
              · (intro wx hSw; (try dsimp only at hSw); go_simp; (try with_reducible rfl))
              (try simp only [Act.put, List.getElem_toArray, List.getElem_cons_zero, List.getElem_cons_succ, List.setIfInBounds_toArray, List.set_cons_zero, List.set_cons_succ])
              refine wpAnyH_take (i := 1) (oi := _) (v := ?_) rfl (by kernel_rfl) (by kernel_rfl) (by kernel_rfl) (fun _ _ _ h => h) (Or.inl ⟨by rfl, ?_⟩) (by assumption) ?_
              rotate_left
              · (intro wx hSw; (try dsimp only at hSw); go_simp; (try with_reducible rfl))
              (try simp only [Act.put, List.getElem_toArray, List.getElem_cons_zero, List.getElem_cons_succ, List.setIfInBounds_toArray, List.set_cons_zero, List.set_cons_succ])
              refine wpAnyH_take (i := 2) (oi := _) (v := ?_) rfl (by kernel_rfl) (by kernel_rfl) (by kernel_rfl) (fun _ _ _ h => h) (Or.inl ⟨by rfl, ?_⟩) (by assumption) ?_
              rotate_left
              · (intro wx hSw; (try dsimp only at hSw); go_simp; (try with_reducible rfl))
              (try simp only [Act.put, List.getElem_toArray, List.getElem_cons_zero, List.getElem_cons_succ, List.setIfInBounds_toArray, List.set_cons_zero, List.set_cons_succ])
              refine wpAnyH_take (i := 3) (oi := _) (v := ?_) rfl (by kernel_rfl) (by kernel_rfl) (by kernel_rfl) (fun _ _ _ h => h) (Or.inl ⟨by rfl, ?_⟩) (by assumption) ?_
              rotate_left
              · (intro wx hSw; (try dsimp only at hSw); go_simp; (try with_reducible rfl))
              (try simp only [Act.put, List.getElem_toArray, List.getElem_cons_zero, List.getElem_cons_succ, List.setIfInBounds_toArray, List.set_cons_zero, List.set_cons_succ])
              refine wpAnyH_take (i := 4) (oi := _) (v := ?_) rfl (by kernel_rfl) (by kernel_rfl) (by kernel_rfl) (fun _ _ _ h => h) (Or.inl ⟨by rfl, ?_⟩) (by assumption) ?_
              rotate_left
              · (intro wx hSw; (try dsimp only at hSw); go_simp; (try with_reducible rfl))
              (try simp only [Act.put, List.getElem_toArray, List.getElem_cons_zero, List.getElem_cons_succ, List.setIfInBounds_toArray, List.set_cons_zero, List.set_cons_succ])
              refine wpAnyH_take (i := 5) (oi := _) (v := ?_) rfl (by kernel_rfl) (by kernel_rfl) (by kernel_rfl) (fun _ _ _ h => h) (Or.inl ⟨by rfl, ?_⟩) (by assumption) ?_
              rotate_left
              · (intro wx hSw; (try dsimp only at hSw); have hy := hSw.2.1; go_simp; (try with_reducible rfl))
              (try simp only [Act.put, List.getElem_toArray, List.getElem_cons_zero, List.getElem_cons_succ, List.setIfInBounds_toArray, List.set_cons_zero, List.set_cons_succ])
              refine wpAnyH_take (i := 6) (oi := _) (v := ?_) rfl (by kernel_rfl) (by kernel_rfl) (by kernel_rfl) (fun _ _ _ h => h) (Or.inl ⟨by rfl, ?_⟩) (by assumption) ?_
              rotate_left
              · (intro wx hSw; (try dsimp only at hSw); go_simp; (try with_reducible rfl))
              (try simp only [Act.put, List.getElem_toArray, List.getElem_cons_zero, List.getElem_cons_succ, List.setIfInBounds_toArray, List.set_cons_zero, List.set_cons_succ])
              refine wpAnyH_take (i := 7) (oi := _) (v := ?_) rfl (by kernel_rfl) (by kernel_rfl) (by kernel_rfl) (fun _ _ _ h => h) (Or.inl ⟨by rfl, ?_⟩) (by assumption) ?_
              rotate_left
              · (intro wx hSw; (try dsimp only at hSw); have hy := hSw.1.cell 0; simp only [List.getElem?_toArray, List.getElem?_cons_zero, List.getElem?_cons_succ] at hy; go_simp; (try with_reducible rfl))
              (try simp only [Act.put, List.getElem_toArray, List.getElem_cons_zero, List.getElem_cons_succ, List.setIfInBounds_toArray, List.set_cons_zero, List.set_cons_succ])
              refine wpAnyH_take (i := 8) (oi := _) (v := ?_) rfl (by kernel_rfl) (by kernel_rfl) (by kernel_rfl) (fun _ _ _ h => h) (Or.inl ⟨by rfl, ?_⟩) (by assumption) ?_
              rotate_left
              · (intro wx hSw; (try dsimp only at hSw); go_simp; (try with_reducible rfl))
              (try simp only [Act.put, List.getElem_toArray, List.getElem_cons_zero, List.getElem_cons_succ, List.setIfInBounds_toArray, List.set_cons_zero, List.set_cons_succ])
              refine wpAnyH_take (i := 9) (oi := _) (v := .bool false) rfl (by kernel_rfl) (by kernel_rfl) (by kernel_rfl) (fun _ _ _ h => h) (Or.inl ⟨by rfl, ?_⟩) (by assumption) ?_
              · (intro wx hSw; (try dsimp only at hSw); go_simp; (try omega); (try simp [*]); (try omega))
              (try simp only [Act.put, List.getElem_toArray, List.getElem_cons_zero, List.getElem_cons_succ, List.setIfInBounds_toArray, List.set_cons_zero, List.set_cons_succ])
              refine wpAnyH_take (i := 10) (oi := _) (v := ?_) rfl (by kernel_rfl) (by kernel_rfl) (by kernel_rfl) (fun _ _ _ h => h) (Or.inl ⟨by rfl, ?_⟩) (by assumption) ?_
              rotate_left
              · (intro wx hSw; (try dsimp only at hSw); go_simp; (try with_reducible rfl))
              (try simp only [Act.put, List.getElem_toArray, List.getElem_cons_zero, List.getElem_cons_succ, List.setIfInBounds_toArray, List.set_cons_zero, List.set_cons_succ])
              refine wpAnyH_take (i := 11) (oi := _) (v := ?_) rfl (by kernel_rfl) (by kernel_rfl) (by kernel_rfl) (fun _ _ _ h => h) (Or.inl ⟨by rfl, ?_⟩) (by assumption) ?_
              rotate_left
              · (intro wx hSw; (try dsimp only at hSw); have hy := hSw.1.cell 2; simp only [List.getElem?_toArray, List.getElem?_cons_zero, List.getElem?_cons_succ] at hy; go_simp; (try with_reducible rfl))
              (try simp only [Act.put, List.getElem_toArray, List.getElem_cons_zero, List.getElem_cons_succ, List.setIfInBounds_toArray, List.set_cons_zero, List.set_cons_succ])
              refine wpAnyH_take (i := 12) (oi := _) (v := ?_) rfl (by kernel_rfl) (by kernel_rfl) (by kernel_rfl) (fun _ _ _ h => h) (Or.inl ⟨by rfl, ?_⟩) (by assumption) ?_
              rotate_left
              · (intro wx hSw; (try dsimp only at hSw); go_simp; (try with_reducible rfl))
              (try simp only [Act.put, List.getElem_toArray, List.getElem_cons_zero, List.getElem_cons_succ, List.setIfInBounds_toArray, List.set_cons_zero, List.set_cons_succ])
              refine wpAnyH_take (i := 13) (oi := _) (v := ?_) rfl (by kernel_rfl) (by kernel_rfl) (by kernel_rfl) (fun _ _ _ h => h) (Or.inl ⟨by rfl, ?_⟩) (by assumption) ?_
              rotate_left
              · (intro wx hSw; (try dsimp only at hSw); have hy := hSw.1.cell 1; simp only [List.getElem?_toArray, List.getElem?_cons_zero, List.getElem?_cons_succ] at hy; go_simp; (try with_reducible rfl))
              (try simp only [Act.put, List.getElem_toArray, List.getElem_cons_zero, List.getElem_cons_succ, List.setIfInBounds_toArray, List.set_cons_zero, List.set_cons_succ])
              refine wpAnyH_take (i := 14) (oi := _) (v := ?_) rfl (by kernel_rfl) (by kernel_rfl) (by kernel_rfl) (fun _ _ _ h => h) (Or.inl ⟨by rfl, ?_⟩) (by assumption) ?_
              rotate_left
              · (intro wx hSw; (try dsimp only at hSw); go_simp; (try with_reducible rfl))
              (try simp only [Act.put, List.getElem_toArray, List.getElem_cons_zero, List.getElem_cons_succ, List.setIfInBounds_toArray, List.set_cons_zero, List.set_cons_succ])
              refine wpAnyH_take (i := 15) (oi := _) (v := ?_) rfl (by kernel_rfl) (by kernel_rfl) (by kernel_rfl) (fun _ _ _ h => h) (Or.inl ⟨by rfl, ?_⟩) (by assumption) ?_
              rotate_left
              · (intro wx hSw; (try dsimp only at hSw); go_simp; (try with_reducible rfl))
              (try simp only [Act.put, List.getElem_toArray, List.getElem_cons_zero, List.getElem_cons_succ, List.setIfInBounds_toArray, List.set_cons_zero, List.set_cons_succ])
              refine wpAnyH_ready (rs := [16]) (by kernel_rfl) (by simp) ?_
              refine AllReadyH.cons (o := _) rfl (fun K hK => ?_) AllReadyH.nil
              go_simp
              refine hK.out _ _ ⟨hHeld.1.alloc _, (((Q.refl _).alloc _).cell (World.block_lt_of_cell? _ _ hHeld.2.1)).trans hHeld.2.1, Below.alloc hHeld.2.2 hWb _⟩ (fun hHeld2 => ?_)
              clear hK K
              (try simp only [Act.put, List.getElem_toArray, List.getElem_cons_zero, List.getElem_cons_succ, List.setIfInBounds_toArray, List.set_cons_zero, List.set_cons_succ])
              refine wpAnyH_ready (rs := [17]) (by kernel_rfl) (by simp) ?_
              refine AllReadyH.cons (o := _) rfl (fun K hK => ?_) AllReadyH.nil
              rw [if_pos (by rfl)]
              refine wp_append_lies _ (.tmp 42) (.tmp 58) 41 rfl w.heap.size 55 i0 (.agg #[.string ⟨#[]⟩, .int .u64 0, .bool false, .bool false, .int .i64 0]) 5 40 Try.underlying41 hi hz0 hz1 hz2 rfl (by decide) (.slice A5 M.length c5) M.length (M.flatMap rcells) (by rfl) (HOW.out.on (((Q.refl _).drew).alloc _)) ⟨W.heap.size, 0, none⟩ 1 1 (rcells ⟨x.key, y.id, false, y.mark, y.data.size⟩) (by rfl) rfl (fun j u h => cells_oneR W.drew ⟨x.key, y.id, false, y.mark, y.data.size⟩ _ j u h) (rcells_one _) (by decide) (by unfold maxLen; omega) (by omega) (by simp; omega) _ rfl ?_
              intro g cap w4 hown' hgrow hat' hlt4
              have o4 := ownW_snoc (wr := W.drew) (HOW.out.on (Q.refl _).drew) hown' hgrow (Below.drew qwW) hWb
              have kb := ownW_keeps HO5.out (B := wr.heap.size) rfl (X := (W.drew).alloc _) (by have := bV.lt; simp; omega) hgrow
              refine hK.out _ _ ⟨hHeld2.1.same kb, ?_, o4.2⟩ (fun hHeld3 => ?_)
              · exact (HAT.out _ o4.2).1
              clear hK K kb
              (try simp only [Act.put, List.getElem_toArray, List.getElem_cons_zero, List.getElem_cons_succ, List.setIfInBounds_toArray, List.set_cons_zero, List.set_cons_succ])
              refine wpAnyH_take (i := 18) (oi := _) (v := ?_) rfl (by kernel_rfl) (by kernel_rfl) (by kernel_rfl) (fun _ _ _ h => h) (Or.inl ⟨by rfl, ?_⟩) (by assumption) ?_
              rotate_left
              · (intro wx hSw; (try dsimp only at hSw); go_simp; (try with_reducible rfl))
              (try simp only [Act.put, List.getElem_toArray, List.getElem_cons_zero, List.getElem_cons_succ, List.setIfInBounds_toArray, List.set_cons_zero, List.set_cons_succ])
              refine wpAnyH_done (by kernel_rfl) ?_ _
              have O4 := Lib.hid o4
              clear o4 hown' hgrow hat' hHeld hHeld2 hHeld3
              go_wp2
              go_roundw
              case rel => exact ⟨k + 1, hkl, by go_num, by rw [HNEW.out, hR.out]; exact O4.out.1, (fun h => by cases h), O4.out.2⟩
              case measure => simp [intOf]; omega
        · obtain rfl : k = x.L.length := by omega
          have hfull : (rowsE x).take x.L.length = rowsE x := List.take_of_length_le (by rw [rowsE_len]; exact Nat.le_refl _)
          rw [hfull] at hown
          cases un with
          | true =>
            rw [← YES.out rfl] at hown
            have HO := Lib.hid hown
            clear hown hfull
            go_wp2
            go_roundw
            case rel => exact ⟨i + 1, hlt, by go_num, by rw [← HS2.out]; exact HO.out, q⟩
            case measure => simp [intOf]; omega
          | false =>
            have h0 := HUN.out rfl
            have h1 : rowsE x = [] := List.length_eq_zero_iff.1 (by rw [rowsE_len]; exact h0)
            rw [h1, List.append_nil, ← NO.out rfl] at hown
            have HO := Lib.hid hown
            clear hown hfull h1 h0
            go_wp2
            go_roundw
            case rel => exact ⟨i + 1, hlt, by go_num, by rw [← HS2.out]; exact HO.out, q⟩
            case measure => simp [intOf]; omega
    · obtain rfl : i = l.length := by omega
      rw [List.take_length] at hown
      obtain ⟨A5, c5, rfl⟩ := hown.form
      have HO := Lib.hid hown.rows
      obtain ⟨N, hN⟩ : ∃ N, N = rowsO p l := ⟨_, rfl⟩
      rw [← hN] at HO ⊢
      have HN := Lib.hid hN
      clear hown hN
      go_wp2
      go_ret
      rw [← HN.out]
      exact ⟨_, _, rfl, HO.out, q⟩
end Go.Proofs.Ytipipjpdlblifaa

namespace Go.Proofs.Ytipipjpdlblifaa
open Go.ChangeShapes Go.WideShapes Go.ChangeAt Go.RowKit
set_option linter.unusedVariables false
set_option linter.unusedSimpArgs false

theorem pickR {w : World} {A : Option Addr} {n c : Nat} {T : List Rw} (h : RowsV w w.heap.size (.slice A n c) T) (i : Nat) (hi : i < T.length) {w' : World} (q : Q w w') :
    ∃ a, A = some a ∧ a.block < w.heap.size ∧ w'.cell? (a.add (i * 5)) = some (.string T[i].key) ∧ w'.cell? ⟨(a.add (i * 5)).block, (a.add (i * 5)).off + 1, none⟩ = some (.int .u64 (T[i].id : Nat)) ∧ w'.cell? ⟨(a.add (i * 5)).block, (a.add (i * 5)).off + 2, none⟩ = some (.bool T[i].latest) ∧ w'.cell? ⟨(a.add (i * 5)).block, (a.add (i * 5)).off + 3, none⟩ = some (.bool T[i].mark) ∧ w'.cell? ⟨(a.add (i * 5)).block, (a.add (i * 5)).off + 4, none⟩ = some (.int .i64 (T[i].size : Nat)) := by
  obtain ⟨A', c', e, -, f⟩ := h
  injection e with e1 e2 e3
  obtain ⟨a, ea, hb, hr⟩ := f i hi
  exact ⟨a, e1.trans ea, hb, hr.keep (B := w.heap.size) (by rw [add_block]; exact hb) (fun _ h => q.cell h)⟩
set_option maxHeartbeats 4000000 in
theorem rrows_any (l : List Ent) (v : Value) (p key : ByteArray) (id most : Nat) (w : World) (R : List Rw) (mo : Bool) (kk : Nat) (hl : l.length ≤ 60) (hL : ∀ e ∈ l, e.L.length ≤ 20) (hs : Small l) (hp : p.size ≤ 1000) (hk : key.size ≤ 1000) (hm : most ≤ 1000) (hu : OneR (rowsO p l)) (hX : rowsPg key id most (rowsO p l) = (R, mo, kk)) (ht : Ents w w.heap.size v l) :
    Calls Try.prog 19 #[v, .string p, .string key, .int .u64 (id : Nat), .int .i64 (most : Nat)] w fun e w' => ∃ A c, e = .returned (.tuple #[.slice A R.length c, .bool mo, .int .i64 (kk : Nat)]) ∧ RowsV w' w'.heap.size (.slice A R.length c) R ∧ Q w w' := by
  obtain ⟨i0, hi, hz0, hz1, hz2⟩ := info_parts info_row
  have AL := Lib.hid (rall_any l v p w hl hL hs hp ht)
  have hTl : (rowsO p l).length ≤ 1200 := by have := rows_len (p := p) hL; omega
  obtain ⟨T, hT⟩ : ∃ T, T = rowsO p l := ⟨_, rfl⟩
  rw [← hT] at AL hTl hu hX
  obtain ⟨AA, cc, rfl⟩ := ht.form
  clear hT ht hs hL hl
  by_cases hk0 : key.size = 0
  · have n1 := emp_yes hk0
    have n2 := emp_yes' hk0
    rw [rowsPg_first hk0] at hX
    obtain ⟨F, hF⟩ : ∃ F, F = 0 := ⟨_, rfl⟩
    have HX : Hid (R = (T.drop F).take most ∧ mo = decide (F + most < T.length) ∧ kk = 0) := Lib.hid (by
      simp only [Prod.mk.injEq] at hX
      obtain ⟨h1, h2, h3⟩ := hX
      exact ⟨by rw [hF, List.drop_zero]; exact h1.symm, by rw [hF, Nat.zero_add]; exact h2.symm, h3.symm⟩)
    have HF := Lib.hid hF
    have fl : F ≤ T.length := by omega
    clear hF
    clear hX hk0 hu
    go_enter Try.func19, Try.ntmps19
    go_wp2_with fail
    refine AL.out.mono ?_
    rintro e w1 ⟨A1, c1, rfl, r1, q1⟩
    have R1 := Lib.hid r1
    clear r1
    go_wp2_with fail
    go_loopw [14, 15] (fun Fm I wr => Fm = .int .i64 (F : Nat) ∧ I = .int .i64 0 ∧ w1 = wr) (fun _ _ _ => 0)
    case atStart => exact ⟨by rw [HF.out]; rfl, rfl, rfl⟩
    case round =>
      obtain ⟨rfl, rfl, rfl⟩ := hrel
      by_cases hT0 : 0 < T.length
      · have hX' := HX.out
        go_wp2_with fail
        go_loopw [16, 17] (fun O J wr => ∃ j : Nat, j ≤ (T.drop F).length ∧ j ≤ most ∧ J = .int .i64 (F + j : Nat) ∧ OwnW w1.heap.size wr O ((T.drop F).take j) ∧ Q w1 wr) (fun _ J _ => T.length - (intOf J).toNat)
        case atStart => exact ⟨0, Nat.zero_le _, Nat.zero_le _, rfl, OwnW.nil _ _, Q.refl _⟩
        case round =>
          obtain ⟨j, hj1, hj2, rfl, hown, q⟩ := hrel
          have hDL : (T.drop F).length = T.length - F := List.length_drop
          have hLj : ((T.drop F).take j).length ≤ 1200 := by rw [List.length_take]; omega
          obtain ⟨M, hM⟩ : ∃ M, M = (T.drop F).take j := ⟨_, rfl⟩
          rw [← hM] at hown hLj
          have HM := Lib.hid hM
          clear hM
          obtain ⟨A5, c5, rfl⟩ := hown.form
          by_cases hc : F + j < T.length ∧ j < most
          · obtain ⟨ha, hb⟩ := hc
            obtain ⟨a, rfl, hab, c0, c1, c2, c3, c4⟩ := pickR R1.out (F + j) ha q
            have HTK : Hid ((T.drop F).take (j + 1) = (T.drop F).take j ++ [T[F + j]]) := Lib.hid (by rw [List.take_succ_eq_append_getElem (by omega), List.getElem_drop])
            obtain ⟨x, hx⟩ : ∃ x, x = T[F + j] := ⟨_, rfl⟩
            rw [← hx] at c0 c1 c2 c3 c4 HTK
            rw [← HM.out] at HTK
            have HO := Lib.hid hown
            have hqs := q.size
            have z1 : ((F + j : Nat) : Int) < (T.length : Int) := by omega
            have z2 : ((F + j : Nat) : Int) < (F : Int) + (most : Int) := by omega
            have z3 : ((F + j : Nat) : Int) + 1 = ((F + (j + 1) : Nat) : Int) := by omega
            have HDJ := Lib.hid (show j + 1 ≤ (T.drop F).length by omega)
            clear hx hown hX' hDL
            go_wp2_with (first | (at_builtin; refine wpList_append_own _ rfl _ _ 41 rfl w1.heap.size 55 i0 (.agg #[.string ⟨#[]⟩, .int .u64 0, .bool false, .bool false, .int .i64 0]) 5 40 Try.underlying41 hi hz0 hz1 hz2 rfl (by decide) _ _ _ rfl (World.ownsRow.alloc HO.out _) ⟨wr.heap.size, 0, none⟩ 1 1 (rcells x) rfl rfl (cells_oneR wr x _) (rcells_one x) (by unfold maxLen; omega) (by omega) (by simp; omega) ?_; intro v1 w3 h1 h2 _; have o4 := Lib.hid (ownW_snoc HO.out h1 h2 q hqs); clear h1 h2))
            go_roundw
            case rel => exact ⟨j + 1, HDJ.out, by omega, by first | rfl | go_num, by rw [HTK.out]; exact o4.out.1, o4.out.2⟩
            case measure => simp [intOf]; omega
          · have hR : M = R := by
              rw [HM.out, hX'.1]
              by_cases h : j < most
              · rw [List.take_of_length_le (by omega), List.take_of_length_le (by omega)]
              · rw [show most = j by omega]
            have HO := Lib.hid hown.rows
            rw [hR] at HO ⊢
            have hmo := hX'.2.1
            have z2 : ((F + j : Nat) : Int) < (T.length : Int) → ¬ ((F + j : Nat) : Int) < (F : Int) + (most : Int) := by omega
            have hkk := hX'.2.2
            subst hkk
            cases mo with
            | true =>
              have z4 : (F : Int) + (most : Int) < (T.length : Int) := by have := of_decide_eq_true hmo.symm; omega
              have HO2 := Lib.hid HO
              have h5 : ((F + j : Nat) : Int) < (T.length : Int) := by omega
              have z5 := z2 h5
              clear hX' hmo hR hown z2
              go_wp2
              go_ret3
              exact ⟨_, _, rfl, HO.out, q1.trans q⟩
            | false =>
              have z4 : ¬ (F : Int) + (most : Int) < (T.length : Int) := by have := of_decide_eq_false hmo.symm; omega
              have HO2 := Lib.hid HO
              have h5 : ¬ ((F + j : Nat) : Int) < (T.length : Int) := by omega
              clear hX' hmo hR hown z2
              go_wp2
              go_ret3
              exact ⟨_, _, rfl, HO.out, q1.trans q⟩
      · have hX' := HX.out
        go_wp2_with fail
        go_loopw [16, 17] (fun O J wr => ∃ j : Nat, j ≤ (T.drop F).length ∧ j ≤ most ∧ J = .int .i64 (F + j : Nat) ∧ OwnW w1.heap.size wr O ((T.drop F).take j) ∧ Q w1 wr) (fun _ J _ => T.length - (intOf J).toNat)
        case atStart => exact ⟨0, Nat.zero_le _, Nat.zero_le _, rfl, OwnW.nil _ _, Q.refl _⟩
        case round =>
          obtain ⟨j, hj1, hj2, rfl, hown, q⟩ := hrel
          have hDL : (T.drop F).length = T.length - F := List.length_drop
          have hLj : ((T.drop F).take j).length ≤ 1200 := by rw [List.length_take]; omega
          obtain ⟨M, hM⟩ : ∃ M, M = (T.drop F).take j := ⟨_, rfl⟩
          rw [← hM] at hown hLj
          have HM := Lib.hid hM
          clear hM
          obtain ⟨A5, c5, rfl⟩ := hown.form
          by_cases hc : F + j < T.length ∧ j < most
          · exfalso; omega
          · have hR : M = R := by
              rw [HM.out, hX'.1]
              by_cases h : j < most
              · rw [List.take_of_length_le (by omega), List.take_of_length_le (by omega)]
              · rw [show most = j by omega]
            have HO := Lib.hid hown.rows
            rw [hR] at HO ⊢
            have hmo := hX'.2.1
            have z2 : ((F + j : Nat) : Int) < (T.length : Int) → ¬ ((F + j : Nat) : Int) < (F : Int) + (most : Int) := by omega
            have hkk := hX'.2.2
            subst hkk
            cases mo with
            | true =>
              have := of_decide_eq_true hmo.symm
              exfalso; omega
            | false =>
              have z4 : ¬ (F : Int) + (most : Int) < (T.length : Int) := by have := of_decide_eq_false hmo.symm; omega
              have HO2 := Lib.hid HO
              have h5 : ¬ ((F + j : Nat) : Int) < (T.length : Int) := by omega
              clear hX' hmo hR hown z2
              go_wp2
              go_ret3
              exact ⟨_, _, rfl, HO.out, q1.trans q⟩
  · have n1 := emp_no (t := key) (by omega)
    have n2 := emp_no' (t := key) (by omega)
    rw [rowsPg_doc hu hk0] at hX
    have HX := Lib.hid hX
    clear hX hk0 hu
    go_enter Try.func19, Try.ntmps19
    go_wp2_with fail
    refine AL.out.mono ?_
    rintro e w1 ⟨A1, c1, rfl, r1, q1⟩
    have R1 := Lib.hid r1
    clear r1
    go_wp2_with fail
    go_loopw [14, 15] (fun Fm I wr => ∃ i : Nat, i ≤ T.length ∧ I = .int .i64 i ∧ Fm = .int .i64 (frm key id T i : Nat) ∧ w1 = wr) (fun _ I _ => T.length - (intOf I).toNat)
    case atStart => exact ⟨0, Nat.zero_le _, rfl, rfl, rfl⟩
    case round =>
      obtain ⟨i, hil, rfl, rfl, rfl⟩ := hrel
      by_cases hlt : i < T.length
      · have hlt2 : (i : Int) < (T.length : Int) := by omega
        obtain ⟨a, rfl, hab, c0, c1, c2, c3, c4⟩ := pickR R1.out i hlt (Q.refl _)
        have HIT := Lib.hid (frm_hit (key := key) (id := id) hlt)
        have MISS := Lib.hid (frm_miss (key := key) (id := id) hlt)
        obtain ⟨x, hx⟩ : ∃ x, x = T[i] := ⟨_, rfl⟩
        rw [← hx] at c0 c1 HIT MISS
        obtain ⟨f, hf⟩ : ∃ f, f = frm key id T i := ⟨_, rfl⟩
        rw [← hf] at MISS ⊢
        clear hx hf c2 c3 c4
        by_cases h1 : x.key = key
        · by_cases h2 : x.id = id
          · have HV := Lib.hid (HIT.out (isR_iff.2 ⟨h1, h2⟩))
            rw [h1] at c0
            rw [h2] at c1
            clear h1 h2 HIT MISS
            go_wp2
            go_roundw
            case rel => exact ⟨i + 1, hlt, by go_num, by rw [HV.out]; go_num, by trivial⟩
            case measure => simp [intOf]; omega
          · have HV := Lib.hid (MISS.out (by rw [Bool.eq_false_iff]; intro h; exact h2 (isR_iff.1 h).2))
            rw [h1] at c0
            have h2' : ¬ (x.id : Int) = (id : Int) := by omega
            clear h1 h2 HIT MISS
            go_wp2
            go_roundw
            case rel => exact ⟨i + 1, hlt, by go_num, by rw [HV.out], by trivial⟩
            case measure => simp [intOf]; omega
        · have HV := Lib.hid (MISS.out (by rw [Bool.eq_false_iff]; intro h; exact h1 (isR_iff.1 h).1))
          have h1' := key_ne h1
          clear h1 HIT MISS
          go_wp2
          go_roundw
          case rel => exact ⟨i + 1, hlt, by go_num, by rw [HV.out], by trivial⟩
          case measure => simp [intOf]; omega
      · obtain rfl : i = T.length := by omega
        have fl := frm_le (key := key) (id := id) (T := T) T.length
        obtain ⟨F, hF⟩ : ∃ F, F = frm key id T T.length := ⟨_, rfl⟩
        rw [← hF] at HX fl ⊢
        clear hF
        by_cases hF0 : F = 0
        · have hX := HX.out
          rw [if_pos hF0] at hX
          simp only [Prod.mk.injEq] at hX
          obtain ⟨rfl, rfl, rfl⟩ := hX
          have z0 : ((F : Int) == 0) = true := by simp [hF0]
          clear hF0 HX
          go_wp2
          go_ret3
          exact ⟨_, _, rfl, RowsV.nil _ _, q1⟩
        · have hX := HX.out
          rw [if_neg hF0] at hX
          clear HX
          have HX : Hid (R = (T.drop F).take most ∧ mo = decide (F + most < T.length) ∧ kk = 0) := Lib.hid (by
            simp only [Prod.mk.injEq] at hX
            obtain ⟨h1, h2, h3⟩ := hX
            exact ⟨h1.symm, h2.symm, h3.symm⟩)
          have z0 : ((F : Int) == 0) = false := by simp; omega
          clear hX hF0
          have hX' := HX.out
          go_wp2_with fail
          go_loopw [16, 17] (fun O J wr => ∃ j : Nat, j ≤ (T.drop F).length ∧ j ≤ most ∧ J = .int .i64 (F + j : Nat) ∧ OwnW w1.heap.size wr O ((T.drop F).take j) ∧ Q w1 wr) (fun _ J _ => T.length - (intOf J).toNat)
          case atStart => exact ⟨0, Nat.zero_le _, Nat.zero_le _, rfl, OwnW.nil _ _, Q.refl _⟩
          case round =>
            obtain ⟨j, hj1, hj2, rfl, hown, q⟩ := hrel
            have hDL : (T.drop F).length = T.length - F := List.length_drop
            have hLj : ((T.drop F).take j).length ≤ 1200 := by rw [List.length_take]; omega
            obtain ⟨M, hM⟩ : ∃ M, M = (T.drop F).take j := ⟨_, rfl⟩
            rw [← hM] at hown hLj
            have HM := Lib.hid hM
            clear hM
            obtain ⟨A5, c5, rfl⟩ := hown.form
            by_cases hc : F + j < T.length ∧ j < most
            · obtain ⟨ha, hb⟩ := hc
              obtain ⟨a, rfl, hab, c0, c1, c2, c3, c4⟩ := pickR R1.out (F + j) ha q
              have HTK : Hid ((T.drop F).take (j + 1) = (T.drop F).take j ++ [T[F + j]]) := Lib.hid (by rw [List.take_succ_eq_append_getElem (by omega), List.getElem_drop])
              obtain ⟨x, hx⟩ : ∃ x, x = T[F + j] := ⟨_, rfl⟩
              rw [← hx] at c0 c1 c2 c3 c4 HTK
              rw [← HM.out] at HTK
              have HO := Lib.hid hown
              have hqs := q.size
              have z1 : ((F + j : Nat) : Int) < (T.length : Int) := by omega
              have z2 : ((F + j : Nat) : Int) < (F : Int) + (most : Int) := by omega
              have z3 : ((F + j : Nat) : Int) + 1 = ((F + (j + 1) : Nat) : Int) := by omega
              have HDJ := Lib.hid (show j + 1 ≤ (T.drop F).length by omega)
              clear hx hown hX' hDL
              go_wp2_with (first | (at_builtin; refine wpList_append_own _ rfl _ _ 41 rfl w1.heap.size 55 i0 (.agg #[.string ⟨#[]⟩, .int .u64 0, .bool false, .bool false, .int .i64 0]) 5 40 Try.underlying41 hi hz0 hz1 hz2 rfl (by decide) _ _ _ rfl (World.ownsRow.alloc HO.out _) ⟨wr.heap.size, 0, none⟩ 1 1 (rcells x) rfl rfl (cells_oneR wr x _) (rcells_one x) (by unfold maxLen; omega) (by omega) (by simp; omega) ?_; intro v1 w3 h1 h2 _; have o4 := Lib.hid (ownW_snoc HO.out h1 h2 q hqs); clear h1 h2))
              go_roundw
              case rel => exact ⟨j + 1, HDJ.out, by omega, by first | rfl | go_num, by rw [HTK.out]; exact o4.out.1, o4.out.2⟩
              case measure => simp [intOf]; omega
            · have hR : M = R := by
                rw [HM.out, hX'.1]
                by_cases h : j < most
                · rw [List.take_of_length_le (by omega), List.take_of_length_le (by omega)]
                · rw [show most = j by omega]
              have HO := Lib.hid hown.rows
              rw [hR] at HO ⊢
              have hmo := hX'.2.1
              have z2 : ((F + j : Nat) : Int) < (T.length : Int) → ¬ ((F + j : Nat) : Int) < (F : Int) + (most : Int) := by omega
              have hkk := hX'.2.2
              subst hkk
              cases mo with
              | true =>
                have z4 : (F : Int) + (most : Int) < (T.length : Int) := by have := of_decide_eq_true hmo.symm; omega
                have HO2 := Lib.hid HO
                have h5 : ((F + j : Nat) : Int) < (T.length : Int) := by omega
                have z5 := z2 h5
                clear hX' hmo hR hown z2
                go_wp2
                go_ret3
                exact ⟨_, _, rfl, HO.out, q1.trans q⟩
              | false =>
                have z4 : ¬ (F : Int) + (most : Int) < (T.length : Int) := by have := of_decide_eq_false hmo.symm; omega
                have HO2 := Lib.hid HO
                have h5 : ¬ ((F + j : Nat) : Int) < (T.length : Int) := by omega
                clear hX' hmo hR hown z2
                go_wp2
                go_ret3
                exact ⟨_, _, rfl, HO.out, q1.trans q⟩
end Go.Proofs.Ytipipjpdlblifaa

namespace Go.Proofs.Ytipipjpdlblifaa
open Go.ChangeShapes Go.WideShapes Go.ChangeAt Go.RowKit Go.Shelf
set_option linter.unusedVariables false
set_option linter.unusedSimpArgs false
attribute [local go_sem] Oper.semAt_some

/-- Nothing has changed below n₀, nor in the boxes B and B + 1, nor in any box of an entry. -/
def KpR (n₀ B : Nat) (W W' : World) : Prop := Below n₀ W W' ∧ (∀ k, B ≤ k → k < B + 2 → W'.heap[k]? = W.heap[k]?) ∧ ∀ (k : Nat) (cs : Array Value), W.heap[k]? = some (Obj.cells cs 61 (0, 0)) → W'.heap[k]? = some (Obj.cells cs 61 (0, 0))
theorem KpR.refl (n₀ B : Nat) (W : World) : KpR n₀ B W W := ⟨Below.refl _ _, fun _ _ _ => rfl, fun _ _ h => h⟩
theorem kpR_t {n₀ B : Nat} {x y z : World} (h : KpR n₀ B x y) (k : KpR n₀ B y z) : KpR n₀ B x z := ⟨h.1.trans k.1, fun i h1 h2 => (k.2.1 i h1 h2).trans (h.2.1 i h1 h2), fun i cs hi => k.2.2 i cs (h.2.2 i cs hi)⟩
theorem kpR_b {n₀ B : Nat} {w : World} (hn : n₀ ≤ w.heap.size) (hB : B + 2 ≤ w.heap.size) (W : World) (l : Nat) (o o' : Obj) (hl : w.heap.size ≤ l) (h : W.heap[l]? = some o) (h1 : o.isCells = false) (h2 : o.isWalk = false) : KpR n₀ B W (W.putObj l o') :=
  ⟨belowK_b hn W l o o' hl h h1 h2, fun k k1 k2 => World.putObj_heap_other (by omega), fun k cs hk => by
    have hne : k ≠ l := fun e => by subst e; rw [hk] at h; cases h; cases h1
    rw [World.putObj_heap_other hne]; exact hk⟩
theorem KpR.of {n₀ B : Nat} {W W' : World} (q : Q W W') (h1 : n₀ ≤ W.heap.size) (h2 : B + 2 ≤ W.heap.size) : KpR n₀ B W W' :=
  ⟨Below.mono q h1, fun k k1 k2 => q.block k (by omega), fun k cs hk => (q.block k (Array.getElem?_eq_some_iff.1 hk).1).trans hk⟩
/-- What the iterator of rows reads: two boxes, and the index. -/
structure ItR (n₀ B : Nat) (W : World) (v : Value) (l : List Ent) (p : ByteArray) : Prop where
  b0 : W.cell? ⟨B, 0, none⟩ = some v
  b1 : W.cell? ⟨B + 1, 0, none⟩ = some (.string p)
  ents : Ents W n₀ v l
  low : n₀ ≤ B
  lt : B + 2 ≤ W.heap.size
theorem ItR.on {n₀ B : Nat} {W W' : World} {v : Value} {l : List Ent} {p : ByteArray} (h : ItR n₀ B W v l p) (k : KpR n₀ B W W') : ItR n₀ B W' v l p :=
  ⟨(World.cell?_of_block (a := ⟨B, 0, none⟩) (k.2.1 B (by omega) (by omega))).trans h.b0, (World.cell?_of_block (a := ⟨B + 1, 0, none⟩) (k.2.1 (B + 1) (by omega) (by omega))).trans h.b1, h.ents.below k.1, h.low, Nat.le_trans h.lt k.1.size⟩
def rwV (x : Rw) : Value := .agg #[.string x.key, .int .u64 (x.id : Nat), .bool x.latest, .bool x.mark, .int .i64 (x.size : Nat)]
theorem Vers.at {w : World} {B : Nat} {v : Value} {l : List Ver} (h : Vers w B v l) (i : Nat) (hi : i < l.length) : ∃ (a : Addr) (c : Nat), v = .slice (some a) l.length c ∧ a.block < B ∧ At w (a.add (i * 4)) l[i] := by
  obtain ⟨A, c, rfl, -, -, -, f⟩ := h
  obtain ⟨a, rfl, ha, h1⟩ := f i hi
  exact ⟨a, c, rfl, ha, h1⟩
/-- The iterator's value. -/
abbrev itR (f B : Nat) : Value := .func (.func f) #[] #[.pointer (some ⟨B, 0, none⟩), .pointer (some ⟨B + 1, 0, none⟩)]

set_option maxRecDepth 100000 in
set_option maxHeartbeats 4000000 in
theorem rows1_in (n : Nat) (hn : 1 ≤ n) (lp B n₀ : Nat) (v : Value) (l : List Ent) (p : ByteArray) (hl : l.length ≤ 1000) (hk : ∀ e ∈ l, e.key.size ≤ 1000 ∧ e.L.length ≤ 1000) (hp : p.size ≤ 1000) (J Jx : List Rw → World → Prop)
    (hY : ∀ pre (x : Rw) W, J pre W → pre.length < (rowsO p l).length → YieldAt Fence.wide (n - 1) Try.prog lp #[rwV x] W fun e W' =>
      (e = .returned (.bool true) ∧ J (pre ++ [x]) W' ∧ KpR n₀ B W W') ∨ (e = .returned (.bool false) ∧ Jx (pre ++ [x]) W'))
    (W : World) (hJ : AbidesFrom W.heap.size J) (ht : ItR n₀ B W v l p) (h0 : J [] W) :
    CallsIn Fence.wide n Try.prog 49 #[.func (.yield lp) #[] #[], .pointer (some ⟨B, 0, none⟩), .pointer (some ⟨B + 1, 0, none⟩)] W fun e W' => (∃ v, e = .returned v) ∧
      ((∃ ys, ys = rowsO p l ∧ J ys W') ∨ (∃ pre, pre <+: rowsO p l ∧ Jx pre W')) := by
  have HT := Lib.hid ht
  have HK := Lib.hid hk
  have c0 := ht.b0
  obtain ⟨A, c, rfl⟩ := ht.ents.form
  have HY := Lib.hid hY
  have HJ := Lib.hid hJ
  clear ht hk hY hJ
  refine callsIn_of_wp Try.func49 rfl trivial ?_ rfl
  simp only [Try.ntmps49, List.size_toArray, List.length_cons, List.length_nil, Nat.reduceAdd, Nat.reduceSub, Array.replicate_succ, Array.replicate_zero, List.push_toArray, List.append_toArray, List.nil_append, List.cons_append]
  gi_wp2
  gi_loopw [10] (fun i wr => ∃ k : Nat, k ≤ l.length ∧ i = .int .i64 k ∧ J (rowsO p (l.take k)) wr ∧ KpR n₀ B W wr)
    (fun i _ => l.length - (intOf i).toNat)
  case atStart => exact ⟨0, Nat.zero_le _, rfl, h0, KpR.refl _ _ _⟩
  case round =>
    obtain ⟨k, hk, rfl, hJs, hkp⟩ := hrel
    obtain ⟨wo, hwo⟩ : ∃ x, x = wr := ⟨_, rfl⟩
    subst hwo
    have hI := HT.out.on hkp
    have hlow := hI.low
    have hltB := hI.lt
    by_cases hlt : k < l.length
    · obtain ⟨a, c', hv, ha, A2, c2, hvs, d0, d1⟩ := hI.ents.at k hlt
      injection hv with e1 e2 e3
      subst e1 e3
      have b1 := hI.b1
      obtain ⟨hx, hn0⟩ := HK.out _ (List.getElem_mem hlt)
      have hkt : (k : Int) < (l.length : Int) := by omega
      have N1 : Hid (underO l[k].key p = false → rowsO p (l.take (k + 1)) = rowsO p (l.take k)) := Lib.hid fun h => rowsO_no hlt h
      have N2 : Hid (underO l[k].key p = true → rowsO p (l.take (k + 1)) = rowsO p (l.take k) ++ rowsE l[k]) := Lib.hid fun h => rowsO_yes hlt h
      have HPRE := Lib.hid (rowsO_pre p l (k + 1))
      obtain ⟨T, hT⟩ : ∃ T, T = rowsO p (l.take k) := ⟨_, rfl⟩
      obtain ⟨T2, hT2⟩ : ∃ T2, T2 = rowsO p (l.take (k + 1)) := ⟨_, rfl⟩
      rw [← hT, ← hT2] at N1 N2
      rw [← hT2] at HPRE
      rw [← hT] at hJs
      have HT2 := Lib.hid hT2
      have HTT := Lib.hid hT
      obtain ⟨e, he⟩ : ∃ e, e = l[k] := ⟨_, rfl⟩
      rw [← he] at hvs d0 d1 hx hn0 N1 N2
      obtain ⟨x, L⟩ := e
      simp only at hvs d0 d1 hx hn0 N1 N2
      obtain ⟨n2, hn2⟩ : ∃ n2, n2 = L.length := ⟨_, rfl⟩
      rw [← hn2] at hvs d1 hn0
      have HN2 := Lib.hid hn2
      have U := Lib.hid fun b => under_any x p b hx hp
      obtain ⟨UN, hUN⟩ : ∃ UN, UN = underO x p := ⟨_, rfl⟩
      rw [← hUN] at U N1 N2
      have qa := (Q.refl wo).alloc (.cells #[.string x, .slice A2 n2 c2] 61)
      have b1' := (qa.cell (p := ⟨B + 1, 0, none⟩) (by show B + 1 < wo.heap.size; omega)).trans b1
      have bx : Bx (wo.alloc (.cells #[.string x, .slice A2 n2 c2] 61)) wo.heap.size 61 #[.string x, .slice A2 n2 c2] := Bx.new _ _ _
      have x0 := bx.cell 0
      have x1 := bx.cell 1
      simp only [List.getElem?_toArray, List.getElem?_cons_zero, List.getElem?_cons_succ] at x0 x1
      have hwW := hkp.1.size
      have HJ2 : Hid (∀ S b, J S wo → Q wo b → J S b ∧ KpR n₀ B W b) := Lib.hid fun S b hj q => ⟨HJ.out S wo b none hj (Q.grown q) (fun r e => by cases e), kpR_t hkp (KpR.of q (by omega) (by omega))⟩
      have HVS := Lib.hid hvs
      have HKP := Lib.hid hkp
      clear hT hT2 he hn2 hUN hkp hI hvs b1
      cases UN with
      | false =>
        have HV := Lib.hid (N1.out rfl)
        clear N1 N2
        gi_wp2_with (refine ⟨trivial, ?_⟩; gi_at_call 46; refine (callsIn_wide.2 (U.out _)).mono ?_; rintro e1 w1 ⟨rfl, rfl⟩)
        go_roundw
        case rel =>
          obtain ⟨j1, j2⟩ := HJ2.out T _ hJs qa
          exact ⟨k + 1, by omega, by go_num, by rw [← HT2.out, HV.out]; exact j1, j2⟩
        case measure => simp [intOf]; omega
      | true =>
        have HV := Lib.hid (N2.out rfl)
        clear N1 N2
        obtain ⟨j1, j2⟩ := HJ2.out T _ hJs qa
        have J1 := Lib.hid j1
        have K1 := Lib.hid (KpR.of (n₀ := n₀) (B := B) qa (by omega) (by omega))
        clear j1 j2 hJs
        gi_wp2_with (refine ⟨trivial, ?_⟩; gi_at_call 46; refine (callsIn_wide.2 (U.out _)).mono ?_; rintro e1 w1 ⟨rfl, rfl⟩)
        gi_loopw [22] (fun i wr => ∃ q : Nat, q ≤ n2 ∧ i = .int .i64 q ∧ J (T ++ (rowsE ⟨x, L⟩).take q) wr ∧ KpR n₀ B wo wr ∧ Bx wr wo.heap.size 61 #[.string x, .slice A2 n2 c2]) (fun i _ => n2 - (intOf i).toNat)
        case atStart => exact ⟨0, Nat.zero_le _, rfl, by rw [List.take_zero, List.append_nil]; exact J1.out, K1.out, bx⟩
        case round =>
          clear bx x0 x1 b1' d0 d1
          obtain ⟨q, hq, rfl, hJq, kq, bx⟩ := hrel
          obtain ⟨wy, hwy⟩ : ∃ x, x = wr := ⟨_, rfl⟩
          subst hwy
          have x0 := bx.cell 0
          have x1 := bx.cell 1
          simp only [List.getElem?_toArray, List.getElem?_cons_zero, List.getElem?_cons_succ] at x0 x1
          by_cases hql : q < n2
          · have hqL : q < L.length := by have := HN2.out; omega
            have hqt : (q : Int) < (n2 : Int) := by omega
            obtain ⟨a3, c3, hv3, ha3, y0, y1, y2, y3⟩ := (HVS.out.below kq.1).at q (by have := HN2.out; omega)
            injection hv3 with f1 f2 f3
            subst f1 f3
            have HTK := Lib.hid (rowsE_take ⟨x, L⟩ hqL)
            have HLEN : Hid ((T ++ (rowsE ⟨x, L⟩).take q).length < (rowsO p l).length) := Lib.hid (by
              have h1 := HPRE.out.length_le
              rw [HV.out, List.length_append, rowsE_len] at h1
              rw [List.length_append, List.length_take, rowsE_len]
              have : ({ key := x, L := L } : Ent).L.length = L.length := rfl
              omega)
            obtain ⟨m, hm⟩ : ∃ m, m = L[q] := ⟨_, rfl⟩
            simp only [← hm] at HTK
            rw [← hm] at y0 y1 y2 y3
            obtain ⟨mi, md, mm, mt⟩ := m
            simp only at y0 y1 y2 y3
            obtain ⟨b, hb⟩ : ∃ b, ((q : Int) == 0) = b := ⟨_, rfl⟩
            have HR : Hid (rwAt ⟨x, L⟩ q ⟨mi, md, mm, mt⟩ = ⟨x, mi, b, mm, md.size⟩) := Lib.hid (by
              rw [rwAt, ← hb]; congr 1
              rw [Bool.eq_iff_iff]; simp)
            rw [HR.out] at HTK
            have q3 := (Q.refl wy).alloc (.cells #[.int .u64 (mi : Nat), .string md, .bool mm, .int .i64 mt] 63)
            have hsz := kq.1.size
            have x0' := (bx.on q3).cell 0
            simp only [List.getElem?_toArray, List.getElem?_cons_zero, List.getElem?_cons_succ] at x0'
            have bx3 := bx.on q3
            have kq3 := kpR_t kq (KpR.of q3 (by omega) (by omega))
            have J3 := HJ.out (T ++ (rowsE ⟨x, L⟩).take q) wy _ none hJq (Q.grown q3) (fun r e => by cases e)
            have HYk := Lib.hid (HY.out (T ++ (rowsE ⟨x, L⟩).take q) ⟨x, mi, b, mm, md.size⟩ _ J3 HLEN.out)
            have BX3 := Lib.hid bx3
            have KQ3 := Lib.hid kq3
            clear hm f2 J3 hJq bx bx3 kq kq3 q3 HR
            obtain ⟨fn, tmps, assign, body, hy, hR⟩ := HYk.out
            dsimp only [rwV] at hy
            gi_wp2_with fail
            refine hR.mono ?_
            rintro e3 W3 (⟨rfl, hJ3, hk3⟩ | ⟨rfl, hJx3⟩)
            · have bx4 : Bx W3 wo.heap.size 61 #[.string x, .slice (some a3) n2 c2] := hk3.2.2 _ _ BX3.out
              gi_wp2
              go_roundw
              case rel => exact ⟨q + 1, by omega, by go_num, by rw [HTK.out, ← List.append_assoc]; exact hJ3, kpR_t KQ3.out hk3, bx4⟩
              case measure => simp [intOf]; omega
            · gi_wp2
              refine bodyPost_ret (results_none rfl _ _ _) rfl ?_
              refine ⟨⟨_, rfl⟩, .inr ⟨_, ?_, hJx3⟩⟩
              rw [List.append_assoc, ← HTK.out]
              refine List.IsPrefix.trans ?_ HPRE.out
              rw [HV.out]
              exact (List.prefix_append_right_inj _).2 (List.take_prefix _ _)
          · have hqt : ¬ (q : Int) < (n2 : Int) := by omega
            have HE : Hid (T ++ (rowsE ⟨x, L⟩).take q = rowsO p (l.take (k + 1))) := Lib.hid (by
              rw [← HT2.out, HV.out, List.take_of_length_le (by rw [rowsE_len]; have := HN2.out; show L.length ≤ q; omega)])
            have hkk := kpR_t HKP.out kq
            gi_wp2
            go_roundw
            case rel => exact ⟨k + 1, by omega, by go_num, by rw [← HE.out]; exact hJq, hkk⟩
            case measure => simp [intOf]; omega
    · obtain rfl : k = l.length := by omega
      rw [List.take_length] at hJs
      gi_wp2
      go_end0
      exact ⟨⟨_, rfl⟩, .inl ⟨_, rfl, hJs⟩⟩
end Go.Proofs.Ytipipjpdlblifaa

namespace Go.Proofs.Ytipipjpdlblifaa
open Go.ChangeShapes Go.WideShapes Go.ChangeAt Go.RowKit Go.Shelf
set_option linter.unusedVariables false
set_option linter.unusedSimpArgs false
attribute [local go_sem] Oper.semAt_some

/-- The world behind rows. -/
def boxed2 (w : World) (v : Value) (p : ByteArray) : World := (w.alloc (.cells #[v] 22)).alloc (.cells #[.string p] 9)
theorem boxed2_size (w : World) (v : Value) (p : ByteArray) : (boxed2 w v p).heap.size = w.heap.size + 2 := by simp [boxed2]
theorem boxed2_q (w : World) (v : Value) (p : ByteArray) : Q w (boxed2 w v p) := ((Q.refl w).alloc _).alloc _
set_option maxHeartbeats 1000000 in
theorem rowsOf_any (v : Value) (p : ByteArray) (w : World) (hv : ∃ A n c, v = .slice A n c) :
    Calls Try.prog 36 #[v, .string p] w fun e w' => e = .returned (itR 49 w.heap.size) ∧ w' = boxed2 w v p := by
  obtain ⟨A, n, c, rfl⟩ := hv
  go_enter Try.func36, Try.ntmps36
  go_wp2
  go_ret
  exact ⟨rfl, rfl⟩
theorem boxed2_it {w : World} {n₀ : Nat} {v : Value} {l : List Ent} {p : ByteArray} (hn : n₀ ≤ w.heap.size) (ht : Ents w n₀ v l) : ItR n₀ w.heap.size (boxed2 w v p) v l p := by
  have h0 : Bx (boxed2 w v p) w.heap.size 22 #[v] := (Bx.new w _ _).alloc _
  have h1 : Bx (boxed2 w v p) (w.heap.size + 1) 9 #[.string p] := by
    have := (Bx.new (w.alloc (.cells #[v] 22)) 9 #[.string p])
    simpa [boxed2] using this
  exact ⟨h0.cell 0, h1.cell 0, ht.below (Below.mono (boxed2_q w v p) hn), hn, by rw [boxed2_size]; omega⟩
/-- The iterator's contract. -/
theorem rows_stops (n : Nat) (hn : 1 ≤ n) (B n₀ : Nat) (v : Value) (l : List Ent) (p : ByteArray) (hl : l.length ≤ 1000) (hk : ∀ e ∈ l, e.key.size ≤ 1000 ∧ e.L.length ≤ 1000) (hp : p.size ≤ 1000) (w : World) (ht : ItR n₀ B w v l p) :
    SeqStopsK Fence.wide n Try.prog 49 #[.pointer (some ⟨B, 0, none⟩), .pointer (some ⟨B + 1, 0, none⟩)] (fun x : Rw => #[rwV x]) (KpR n₀ B) (fun ys => ys = rowsO p l) (fun pre => pre <+: rowsO p l) (rowsO p l).length w :=
  fun lp J Jx W hW hJ hJx hY h0 => rows1_in n hn lp B n₀ v l p hl hk hp J Jx hY W hJ
    (ht.on ⟨Below.mono hW (by have := ht.low; have := ht.lt; omega), fun k h1 h2 => hW.block k (by have := ht.lt; omega), fun k cs hk => (hW.block k (Array.getElem?_eq_some_iff.1 hk).1).trans hk⟩) h0
def RowsC (w : World) (P : List Rw × Bool × Nat) (e : Ending) (w' : World) : Prop :=
  ∃ A c, e = .returned (.tuple #[.slice A P.1.length c, .bool P.2.1, .int .i64 (P.2.2 : Nat)]) ∧ RowsV w' w'.heap.size (.slice A P.1.length c) P.1 ∧ Q w w'
theorem ownW_own {β : Type} (base : Nat) (v : β → Value) (f : β → List Rw) : Own (fun s W => OwnW base W (v s) (f s)) := by
  rintro s X Y row hr hg hrow
  refine World.ownsRow.kept hr hg ?_
  rcases hr.2 with ⟨e, _⟩ | ⟨g, cap, cur, e, _, hgb, _⟩
  · left; rw [e]; rfl
  · refine .inr fun e' => ?_
    rw [e] at e'
    obtain ⟨o, ho, hc⟩ := hrow g (by rw [← e']; rfl)
    rw [hgb] at ho; cases ho; cases hc
theorem OwnW.lt {base : Nat} {w : World} {v : Value} {l : List Rw} (h : OwnW base w v l) (k : Nat) (e : v.ownBlock = some k) : base ≤ k ∧ k < w.heap.size := World.ownsRow.lt h k e
theorem OwnW.set {base : Nat} {w : World} {v : Value} {l : List Rw} (h : OwnW base w v l) {b i : Nat} {u : Value} (hb : b < base) : OwnW base (w.setCell ⟨b, i, none⟩ u) v l := by
  refine World.ownsRow.kept h (grown_set w b i u) ?_
  cases e : v.ownBlock with
  | none => exact .inl rfl
  | some k => refine .inr fun e2 => ?_; injection e2 with e2; have := (h.lt k e).1; omega
theorem KpR.set {n₀ B : Nat} {W : World} {b i : Nat} {u : Value} {t : TypeId} {cs0 : Array Value} (hb : Bx W b t cs0) (ht : t ≠ 61) (h1 : n₀ ≤ b) (h2 : b < B ∨ B + 2 ≤ b) : KpR n₀ B W (W.setCell ⟨b, i, none⟩ u) :=
  ⟨(Below.refl _ _).setCell (p := ⟨b, i, none⟩) h1 _, fun k k1 k2 => heap_set W b i u (by omega), fun k cs hk => by
    have hne : k ≠ b := fun e => by
      subst e
      rw [show W.heap[k]? = _ from hb] at hk
      injection hk with hk
      injection hk with e1 e2
      exact ht e2
    rw [heap_set _ _ _ _ hne]; exact hk⟩
theorem rowW_more {base n₀ B : Nat} {W w1 : World} {v v' : Value} {l : List Rw} {x : Rw} {tmp : Obj} (hr : OwnW base W v l) (hb : base ≤ W.heap.size) (hn : n₀ ≤ base) (hB : B + 2 ≤ base)
    (hown : w1.ownsRow base 55 5 v' (l.length + 1) (l.flatMap rcells ++ rcells x)) (hg : (W.alloc tmp).grownBy w1 v.ownBlock) :
    OwnW base w1 v' (l ++ [x]) ∧ (∀ k, k < base → w1.heap[k]? = W.heap[k]?) ∧ KeepsOthers W w1 ∧ KpR n₀ B W w1 := by
  have hlow : ∀ k, k < base → w1.heap[k]? = W.heap[k]? := fun k hk =>
    (hg.block k (by simp; omega) (fun e => by have := (hr.lt k e.symm).1; omega)).trans (Below.heap_alloc W tmp k (by omega))
  have hbel : Below base W w1 := ((Below.refl base W).alloc hb tmp).grown hg (by simp; omega) fun j ej => (hr.lt j ej).1
  refine ⟨OwnW.onto (M := [x]) (by simpa using hown) rfl, hlow, ?_, Below.mono hbel hn, fun k k1 k2 => hlow k (by omega), fun k cs hk => ?_⟩
  · refine (KeepsOthers.alloc W tmp).trans (KeepsOthers.of_grownBy hg fun j o ej hj => ?_)
    rcases (World.ownsRow.alloc hr tmp).2 with ⟨rfl, _⟩ | ⟨g, cap, cur, rfl, _, hgb, _⟩
    · simp [Value.ownBlock] at ej
    · obtain rfl : g = j := by simpa [Value.ownBlock] using ej
      rw [hgb] at hj; cases hj; rfl
  · have hlt : k < W.heap.size := (Array.getElem?_eq_some_iff.1 hk).1
    refine (hg.block k (by simp; omega) (fun e => ?_)).trans ((Below.heap_alloc W tmp k (by omega)).trans hk)
    rcases hr.2 with ⟨rfl, _⟩ | ⟨g, cap, cur, rfl, _, hgb, _⟩
    · simp [Value.ownBlock] at e
    · obtain rfl : g = k := by simpa [Value.ownBlock] using e.symm
      rw [hgb] at hk
      injection hk with hk
      injection hk with e1 e2
      exact absurd e2 (by decide)

set_option maxRecDepth 100000 in
set_option maxHeartbeats 4000000 in
theorem rowsP_yes (l : List Ent) (v : Value) (p key : ByteArray) (id most : Nat) (w : World) (hR : okI l) (hs : Small l) (hLv : ∀ e ∈ l, e.L.length ≤ 1000) (hp : hasO 0 60 ko p = true) (ha : key.size ≤ 1000) (hm : pgO key most = true) (ht : Ents w w.heap.size v l) :
    Calls Try.prog 18 #[v, .string p, .string key, .int .u64 (id : Nat), .int .i64 (most : Nat)] w fun e w' => RowsC w (rowsPg key id most (rowsO p l)) e w' := by
  have hpz := (hasO_size hp).2
  have hl := hR.1
  have MC := Lib.hid fun b (q : Q w b) => mayList_any l v p b true (.inl ⟨rfl, hR⟩) hs (by omega) (ht.on q)
  rw [hp] at MC
  have PC := Lib.hid fun b => mayPage_any key (most : Nat) b ha
  rw [hm] at PC
  have hform : ∃ A n c, v = .slice A n c := by obtain ⟨A, c, e⟩ := ht.form; exact ⟨A, _, c, e⟩
  have TC := Lib.hid fun b => rowsOf_any v p b hform
  have hk : ∀ e ∈ l, e.key.size ≤ 1000 ∧ e.L.length ≤ 1000 := fun e he => ⟨(hs.2 e he).1, hLv e he⟩
  have HK := Lib.hid hk
  have HT := Lib.hid ht
  obtain ⟨i0, hi, hz0, hz1, hz2⟩ := info_parts info_row
  obtain ⟨A, nn, c, rfl⟩ := hform
  have hmm : most ≤ 1000 := by
    unfold pgO at hm
    simp only [Bool.and_eq_true, decide_eq_true_eq] at hm
    omega
  have EK : key.toList.isEmpty = decide (key.size = 0) := by
    by_cases h0 : key.size = 0
    · rw [emp_yes' h0]; simp [h0]
    · rw [emp_no' (by omega)]; simp [h0]
  obtain ⟨kb, hkb⟩ : ∃ kb, kb = decide (key.size = 0) := ⟨_, rfl⟩
  rw [← hkb] at EK
  have HKB := Lib.hid hkb
  clear hR hs ht hk hp hm hLv hkb
  refine (callsIn_wide (n := 9)).1 ?_
  refine callsIn_of_wp_marks Try.func18 rfl trivial ?_ rfl
  simp only [Try.ntmps18, List.size_toArray, List.length_cons, List.length_nil, Nat.reduceAdd, Nat.reduceSub, Array.replicate_succ, Array.replicate_zero, List.push_toArray, List.append_toArray, List.nil_append, List.cons_append]
  have qa : Q w (((w.alloc (.cells #[.string key] 9)).alloc (.cells #[.int .u64 (id : Nat)] 23)).alloc (.cells #[.int .i64 (most : Nat)] 3)) := (((Q.refl w).alloc _).alloc _).alloc _
  have ba := ((Bx.new w 9 #[.string key]).alloc (.cells #[.int .u64 (id : Nat)] 23)).alloc (.cells #[.int .i64 (most : Nat)] 3)
  have bi := (Bx.new (w.alloc (.cells #[.string key] 9)) 23 #[.int .u64 (id : Nat)]).alloc (.cells #[.int .i64 (most : Nat)] 3)
  have bm := Bx.new ((w.alloc (.cells #[.string key] 9)).alloc (.cells #[.int .u64 (id : Nat)] 23)) 3 #[.int .i64 (most : Nat)]
  simp only [World.size_alloc] at bi bm
  gi_wp2_with (first | (refine ⟨trivial, ?_⟩; gi_at_call 26; refine (callsIn_wide.2 (MC.out _ qa)).mono ?_; rintro e1 w1 ⟨rfl, q1⟩; have ba1 := ba.on q1; have ca1 := ba1.cell 0; have bm1 := bm.on q1; have cm1 := bm1.cell 0; have bi1 := bi.on q1) | (refine ⟨trivial, ?_⟩; gi_at_call 28; refine (callsIn_wide.2 (PC.out _)).mono ?_; rintro e2 w2 ⟨rfl, q2⟩; have ba2 := ba1.on q2; have ca2 := ba2.cell 0; have ba3 := ba2.alloc (.cells #[.slice none 0 0] 41); have ca3 := ba3.cell 0) | (refine ⟨trivial, ?_⟩; gi_at_call 36; refine (callsIn_wide.2 (TC.out _)).mono ?_; rintro e4 w4 ⟨rfl, rfl⟩))
  obtain ⟨P, hP⟩ : ∃ P, P = w2.heap.size := ⟨_, rfl⟩
  have qc := ((((Q.refl w2).alloc (.cells #[.slice none 0 0] 41)).alloc (.cells #[.bool kb] 4)).alloc (.cells #[.bool false] 4))
  have q0 := (qa.trans (q1.trans q2)).trans qc
  have q4 := boxed2_q (((w2.alloc (.cells #[.slice none 0 0] 41)).alloc (.cells #[.bool kb] 4)).alloc (.cells #[.bool false] 4)) (.slice A nn c) p
  have it : ItR w.heap.size (P + 1 + 1 + 1) (boxed2 (((w2.alloc (.cells #[.slice none 0 0] 41)).alloc (.cells #[.bool kb] 4)).alloc (.cells #[.bool false] 4)) (.slice A nn c) p) (.slice A nn c) l p := by
    have := boxed2_it (w := ((w2.alloc (.cells #[.slice none 0 0] 41)).alloc (.cells #[.bool kb] 4)).alloc (.cells #[.bool false] 4)) (n₀ := w.heap.size) (p := p) q0.size (HT.out.below q0)
    simp only [World.size_alloc, ← hP] at this
    exact this
  have bO : Bx (boxed2 (((w2.alloc (.cells #[.slice none 0 0] 41)).alloc (.cells #[.bool kb] 4)).alloc (.cells #[.bool false] 4)) (.slice A nn c) p) P 41 #[.slice none 0 0] := by
    rw [hP]; exact (((Bx.new w2 41 _).alloc _).alloc _).on q4
  have bB : Bx (boxed2 (((w2.alloc (.cells #[.slice none 0 0] 41)).alloc (.cells #[.bool kb] 4)).alloc (.cells #[.bool false] 4)) (.slice A nn c) p) (P + 1) 4 #[.bool kb] := by
    have := ((Bx.new (w2.alloc (.cells #[.slice none 0 0] 41)) 4 #[.bool kb]).alloc (.cells #[.bool false] 4)).on q4
    rw [World.size_alloc, ← hP] at this; exact this
  have bF : Bx (boxed2 (((w2.alloc (.cells #[.slice none 0 0] 41)).alloc (.cells #[.bool kb] 4)).alloc (.cells #[.bool false] 4)) (.slice A nn c) p) (P + 1 + 1) 4 #[.bool false] := by
    have := (Bx.new ((w2.alloc (.cells #[.slice none 0 0] 41)).alloc (.cells #[.bool kb] 4)) 4 #[.bool false]).on q4
    simp only [World.size_alloc, ← hP] at this; exact this
  have bA := ba2.on (qc.trans q4)
  have bI := (bi1.on q2).on (qc.trans q4)
  have bM := (bm1.on q2).on (qc.trans q4)
  have hwP : w.heap.size + 3 ≤ P := by
    have h1 := (bm1.on q2).lt
    rw [hP]; omega
  have hsz : (boxed2 (((w2.alloc (.cells #[.slice none 0 0] 41)).alloc (.cells #[.bool kb] 4)).alloc (.cells #[.bool false] 4)) (.slice A nn c) p).heap.size = P + 5 := by rw [boxed2_size]; simp only [World.size_alloc]; rw [hP]
  have hB0 : Below w.heap.size w (boxed2 (((w2.alloc (.cells #[.slice none 0 0] 41)).alloc (.cells #[.bool kb] 4)).alloc (.cells #[.bool false] 4)) (.slice A nn c) p) := q0.trans q4
  obtain ⟨W0, hW0⟩ : ∃ W0, W0 = (boxed2 (((w2.alloc (.cells #[.slice none 0 0] 41)).alloc (.cells #[.bool kb] 4)).alloc (.cells #[.bool false] 4)) (.slice A nn c) p) := ⟨_, rfl⟩
  rw [← hW0] at it bO bB bF hsz hB0 bA bI bM ⊢
  rw [← hP]
  clear hW0 hP q0 q1 q2 q4 qc MC TC PC ba bi bm ba1 bm1 bi1 ca1 cm1 ba2 ca2 ba3 ca3 qa
  obtain ⟨H, hH⟩ : ∃ H, H = w.heap.size := ⟨_, rfl⟩
  rw [← hH] at it bA bI bM hwP hB0 ⊢
  have HT2 : Hid (H = w.heap.size) := Lib.hid hH
  clear hH HT
  have hkb0 : bhB key id [] = kb := by rw [HKB.out]; simp [bhB]
  refine wpIn_rangeFunc_ownH (F := Fence.wide) rfl (by omega) (gf := 49) (lb := #[.pointer (some ⟨P + 1 + 1 + 1, 0, none⟩), .pointer (some ⟨P + 1 + 1 + 1 + 1, 0, none⟩)]) rfl trivial (enters_of Try.func49 (by kernel_rfl) rfl)
    (rows_stops (9 - 1) (by omega) (P + 1 + 1 + 1) H (.slice A nn c) l p (by omega) HK.out (by omega) W0 it) (fun h k => kpR_t h k) (kpR_b (by omega) (by omega)) (Below.refl _ _) (fun _ => rfl)
    (fun pre W => (∃ pv, Bx W P 41 #[pv] ∧ OwnW (P + 5) W pv (bhL key id pre)) ∧ (Bx W (P + 1) 4 #[.bool (bhB key id pre)] ∧ Bx W (P + 1 + 1) 4 #[.bool false]) ∧ (Bx W H 9 #[.string key] ∧ Bx W (H + 1) 23 #[.int .u64 (id : Nat)] ∧ Bx W (H + 1 + 1) 3 #[.int .i64 (most : Nat)]) ∧ ((bhL key id pre).length ≤ most ∧ Below H W0 W))
    (fun c pre W => ∃ pre0 x, (c = .exit 0 ∧ pre = pre0 ++ [x] ∧ bhB key id pre0 = true ∧ (bhL key id pre0).length = most) ∧ ((∃ pv, Bx W P 41 #[pv] ∧ OwnW (P + 5) W pv (bhL key id pre0)) ∧ Bx W (P + 1) 4 #[.bool true] ∧ Bx W (P + 1 + 1) 4 #[.bool true] ∧ Below H W0 W))
    (fun pre X Y row hs hg hr => by
      obtain ⟨⟨pv, h1, h2⟩, ⟨h3, h4⟩, ⟨h5, h6, h7⟩, h8, h9⟩ := hs
      have hr' := fun r e => (hr r e).2
      exact ⟨⟨pv, bx_own P 41 (fun _ : Unit => #[pv]) () X Y row h1 hg hr', ownW_own (P + 5) (fun _ : Unit => pv) (fun _ => bhL key id pre) () X Y row h2 hg hr'⟩, ⟨bx_own (P + 1) 4 (fun _ : Unit => #[.bool (bhB key id pre)]) () X Y row h3 hg hr', bx_own (P + 1 + 1) 4 (fun _ : Unit => #[.bool false]) () X Y row h4 hg hr'⟩, ⟨bx_own H 9 (fun _ : Unit => #[.string key]) () X Y row h5 hg hr', bx_own (H + 1) 23 (fun _ : Unit => #[.int .u64 (id : Nat)]) () X Y row h6 hg hr', bx_own (H + 1 + 1) 3 (fun _ : Unit => #[.int .i64 (most : Nat)]) () X Y row h7 hg hr'⟩, h8, ownFrom_below (β := Unit) (by omega) (by omega) () X Y row h9 hg hr⟩)
    (fun c pre X Y row hs hg hr => by
      obtain ⟨pre0, x, h1, ⟨pv, h2, h3⟩, h4, h5, h6⟩ := hs
      have hr' := fun r e => (hr r e).2
      exact ⟨pre0, x, h1, ⟨pv, bx_own P 41 (fun _ : Unit => #[pv]) () X Y row h2 hg hr', ownW_own (P + 5) (fun _ : Unit => pv) (fun _ => bhL key id pre0) () X Y row h3 hg hr'⟩, bx_own (P + 1) 4 (fun _ : Unit => #[.bool true]) () X Y row h4 hg hr', bx_own (P + 1 + 1) 4 (fun _ : Unit => #[.bool true]) () X Y row h5 hg hr', ownFrom_below (β := Unit) (by omega) (by omega) () X Y row h6 hg hr⟩)
    ⟨⟨_, bO, by rw [bhL_nil]; exact OwnW.nil _ _⟩, ⟨by rw [hkb0]; exact bB, bF⟩, ⟨bA, bI, bM⟩, by rw [bhL_nil]; exact Nat.zero_le _, Below.refl _ _⟩
    (fun x a' W => ∃ LV, P + 5 ≤ LV ∧ a' = { tmps := #[.slice A nn c, .string p, .string key, .int .u64 (id : Nat), .int .i64 (most : Nat), undef, undef, .pointer (some ⟨H, 0, none⟩), .pointer (some ⟨H + 1, 0, none⟩), .pointer (some ⟨H + 1 + 1, 0, none⟩), .slice none 0 0, .bool false, .int .i64 0, .pointer (some ⟨P, 0, none⟩), .pointer (some ⟨P + 1, 0, none⟩), .pointer (some ⟨P + 1 + 1, 0, none⟩), .pointer (some ⟨LV, 0, none⟩), .slice A nn c, .string p, .bool true, .bool false, .bool false, .string key, .int .i64 (most : Nat), .bool true, .bool false, .bool false, .string key, .bool kb, .slice A nn c, .string p, itR 49 (P + 1 + 1 + 1), rwV x, undef, undef, undef, undef, undef, undef, undef, undef, undef, undef, undef, undef, undef, undef, undef, undef, undef, undef, undef, undef, undef, undef, undef, undef], defers := [] } ∧ Bx W LV 55 #[.string x.key, .int .u64 (x.id : Nat), .bool x.latest, .bool x.mark, .int .i64 (x.size : Nat)])
    (fun x a' _ X Y row hs hg hr => by
      obtain ⟨LV, h1, h2, h3⟩ := hs
      exact ⟨LV, h1, h2, bx_own LV 55 (fun _ : Unit => #[.string x.key, .int .u64 (x.id : Nat), .bool x.latest, .bool x.mark, .int .i64 (x.size : Nat)]) () X Y row h3 hg (fun r e => (hr r e).2)⟩)
    ?assign ?body ?done ?stop
  case assign =>
    rintro lp pre ⟨xk, xi, xl, xm, xs⟩ W K ⟨⟨pv, hv, hrow⟩, ⟨hb1, hb2⟩, ⟨hk1, hk2, hk3⟩, hlen, hB⟩ hK
    have hWs : P + 5 ≤ W.heap.size := by have := hB.size; omega
    have qx := (Q.refl W).alloc (.cells #[.string xk, .int .u64 (xi : Nat), .bool xl, .bool xm, .int .i64 (xs : Nat)] 55)
    have KK := hK _ _ ((KeepsOthers.alloc W (.cells #[.string xk, .int .u64 (xi : Nat), .bool xl, .bool xm, .int .i64 (xs : Nat)] 55)).from _) (KpR.of qx (by omega) (by omega)) ⟨⟨pv, hv.on qx, hrow.on qx⟩, ⟨hb1.on qx, hb2.on qx⟩, ⟨hk1.on qx, hk2.on qx, hk3.on qx⟩, hlen, hB.trans (Below.mono qx (by omega))⟩ ⟨W.heap.size, hWs, rfl, Bx.new _ _ _⟩
    clear hK hv hrow hb1 hb2 hk1 hk2 hk3
    simp only [rwV] at KK ⊢
    gi_wp2
    exact KK
  case body =>
    rintro lp pre ⟨xk, xi, xl, xm, xs⟩ a' W hlW hrec ⟨⟨pv, hv, hrow⟩, ⟨hb1, hb2⟩, ⟨hk1, hk2, hk3⟩, hlen, hB⟩ ⟨LV, hLV, rfl, hbx⟩ hlt
    have hWs : P + 5 ≤ W.heap.size := by have := hB.size; omega
    simp only [rwV] at hbx ⊢
    have cv : W.cell? ⟨P, 0, none⟩ = some pv := hv.cell 0
    have cb : W.cell? ⟨P + 1, 0, none⟩ = some (.bool (bhB key id pre)) := hb1.cell 0
    have fb := hb1.frozen 0
    have cm : W.cell? ⟨P + 1 + 1, 0, none⟩ = some (.bool false) := hb2.cell 0
    have fm := hb2.frozen 0
    have ck : W.cell? ⟨H, 0, none⟩ = some (.string key) := hk1.cell 0
    have ci : W.cell? ⟨H + 1, 0, none⟩ = some (.int .u64 (id : Nat)) := hk2.cell 0
    have cmo : W.cell? ⟨H + 1 + 1, 0, none⟩ = some (.int .i64 (most : Nat)) := hk3.cell 0
    have x0 := hbx.cell 0
    have x1 := hbx.cell 1
    have x2 := hbx.cell 2
    have x3 := hbx.cell 3
    have x4 := hbx.cell 4
    simp only [List.getElem?_toArray, List.getElem?_cons_zero, List.getElem?_cons_succ] at x0 x1 x2 x3 x4
    cases hb : bhB key id pre with
    | false =>
      have BN := bhB_snoc key id pre ⟨xk, xi, xl, xm, xs⟩
      rw [hb, Bool.false_or] at BN
      obtain ⟨LN1, LN2⟩ := bhL_no (r := ⟨xk, xi, xl, xm, xs⟩) hb
      have KK := KpR.set (n₀ := H) (B := P + 1 + 1 + 1) (i := 0) (u := .bool (isR key id ⟨xk, xi, xl, xm, xs⟩)) hb1 (by decide) (by omega) (by omega)
      have II : (∃ pv, Bx (W.setCell ⟨P + 1, 0, none⟩ (.bool (isR key id ⟨xk, xi, xl, xm, xs⟩))) P 41 #[pv] ∧ OwnW (P + 5) (W.setCell ⟨P + 1, 0, none⟩ (.bool (isR key id ⟨xk, xi, xl, xm, xs⟩))) pv (bhL key id (pre ++ [⟨xk, xi, xl, xm, xs⟩]))) ∧ (Bx (W.setCell ⟨P + 1, 0, none⟩ (.bool (isR key id ⟨xk, xi, xl, xm, xs⟩))) (P + 1) 4 #[.bool (bhB key id (pre ++ [⟨xk, xi, xl, xm, xs⟩]))] ∧ Bx (W.setCell ⟨P + 1, 0, none⟩ (.bool (isR key id ⟨xk, xi, xl, xm, xs⟩))) (P + 1 + 1) 4 #[.bool false]) ∧ (Bx (W.setCell ⟨P + 1, 0, none⟩ (.bool (isR key id ⟨xk, xi, xl, xm, xs⟩))) H 9 #[.string key] ∧ Bx (W.setCell ⟨P + 1, 0, none⟩ (.bool (isR key id ⟨xk, xi, xl, xm, xs⟩))) (H + 1) 23 #[.int .u64 (id : Nat)] ∧ Bx (W.setCell ⟨P + 1, 0, none⟩ (.bool (isR key id ⟨xk, xi, xl, xm, xs⟩))) (H + 1 + 1) 3 #[.int .i64 (most : Nat)]) ∧ ((bhL key id (pre ++ [⟨xk, xi, xl, xm, xs⟩])).length ≤ most ∧ Below H W0 (W.setCell ⟨P + 1, 0, none⟩ (.bool (isR key id ⟨xk, xi, xl, xm, xs⟩)))) := by
        rw [LN1, BN]
        rw [LN2] at hrow
        exact ⟨⟨pv, hv.other (by omega) _ _, hrow.set (by omega)⟩, ⟨hb1.set 0 _, hb2.other (by omega) _ _⟩, ⟨hk1.other (by omega) _ _, hk2.other (by omega) _ _, hk3.other (by omega) _ _⟩, Nat.zero_le _, hB.trans KK.1⟩
      have FIN : KeepsFrom W0.heap.size W (W.setCell ⟨P + 1, 0, none⟩ (.bool (isR key id ⟨xk, xi, xl, xm, xs⟩))) := (KeepsOthers.setCell _ _ _).from _
      rw [hb] at cb
      clear hv hrow hb1 hb2 hk1 hk2 hk3 BN LN1 LN2 hbx
      by_cases hke : xk = key
      · by_cases hie : xi = id
        · have hR : isR key id ⟨xk, xi, xl, xm, xs⟩ = true := isR_iff.2 ⟨hke, hie⟩
          have e1 : (xk.toList == key.toList) = true := by rw [hke]; simp
          have e2 : ((xi : Int) == (id : Int)) = true := by rw [hie]; simp
          rw [hR] at KK II FIN
          clear hke hie hR
          gi_wp2
          exact ⟨FIN, KK, II⟩
        · have hR : isR key id ⟨xk, xi, xl, xm, xs⟩ = false := by
            cases h : isR key id ⟨xk, xi, xl, xm, xs⟩ with
            | false => rfl
            | true => exact absurd (isR_iff.1 h).2 hie
          have e1 : (xk.toList == key.toList) = true := by rw [hke]; simp
          have e2 : ((xi : Int) == (id : Int)) = false := by
            have : ¬ (xi : Int) = (id : Int) := by omega
            simpa using this
          rw [hR] at KK II FIN
          clear hke hie hR
          gi_wp2
          exact ⟨FIN, KK, II⟩
      · have hR : isR key id ⟨xk, xi, xl, xm, xs⟩ = false := by
          cases h : isR key id ⟨xk, xi, xl, xm, xs⟩ with
          | false => rfl
          | true => exact absurd (isR_iff.1 h).1 hke
        have e1 : (xk.toList == key.toList) = false := key_ne hke
        rw [hR] at KK II FIN
        clear hke hR
        gi_wp2
        exact ⟨FIN, KK, II⟩
    | true =>
      rw [hb] at cb
      have LY := bhL_yes (r := ⟨xk, xi, xl, xm, xs⟩) hb
      have BY : bhB key id (pre ++ [⟨xk, xi, xl, xm, xs⟩]) = true := bhB_more hb
      obtain ⟨M, hM⟩ : ∃ M, M = bhL key id pre := ⟨_, rfl⟩
      rw [← hM] at LY hlen hrow
      have HM := Lib.hid hM
      have HB := Lib.hid hb
      have HLY := Lib.hid LY
      have HBY := Lib.hid BY
      obtain ⟨A7, c7, rfl⟩ := hrow.form
      rw [hb] at hb1
      clear hM hb LY BY
      by_cases heq : M.length = most
      · subst heq
        gi_wp2
        refine ⟨(KeepsOthers.setCell _ _ _).from _, pre, ⟨xk, xi, xl, xm, xs⟩, ⟨rfl, rfl, HB.out, by rw [← HM.out]⟩, ⟨_, hv.other (by omega) _ _, by rw [← HM.out]; exact hrow.set (by omega)⟩, hb1.other (by omega) _ _, hb2.set 0 _, hB.setCell (p := ⟨P + 1 + 1, 0, none⟩) (by show H ≤ P + 1 + 1; omega) _⟩
      · have he : ¬ (M.length : Int) = (most : Int) := by omega
        have hn1 : M.length ≤ 1000 := by omega
        gi_wp2_with (gi_at_builtin; refine wpListIn_append_own _ rfl _ _ 41 rfl (P + 5) 55 i0 (.agg #[.string ⟨#[]⟩, .int .u64 0, .bool false, .bool false, .int .i64 0]) 5 40 Try.underlying41 hi hz0 hz1 hz2 rfl (by decide) _ _ _ rfl (World.ownsRow.alloc hrow _) ⟨W.heap.size, 0, none⟩ 1 1 (rcells ⟨xk, xi, xl, xm, xs⟩) rfl rfl (cells_oneR W ⟨xk, xi, xl, xm, xs⟩ _) (rcells_one _) (by unfold maxLen; omega) (by omega) (by simp; omega) ?_; intro v' w1 hown' hgrow _; obtain ⟨r1, r2, r3, r4⟩ := rowW_more (n₀ := H) (B := P + 1 + 1 + 1) hrow hWs (by omega) (by omega) hown' hgrow; obtain ⟨A8, c8, rfl⟩ := r1.form; simp only [List.length_append, List.length_singleton] at r1; have bv := hv.same (r2 P (by omega)); have hc1 := bv.cell 0; have hf1 := bv.frozen 0)
        refine ⟨(r3.trans (KeepsOthers.setCell _ _ _)).from _, kpR_t r4 (KpR.set bv (by decide) (by omega) (by omega)), ⟨_, bv.set 0 _, by rw [HLY.out]; exact OwnW.set (b := P) (i := 0) r1 (by omega)⟩, ⟨by rw [HBY.out]; exact (hb1.same (r2 _ (by omega))).other (by omega) _ _, (hb2.same (r2 _ (by omega))).other (by omega) _ _⟩, ⟨(hk1.same (r2 _ (by omega))).other (by omega) _ _, (hk2.same (r2 _ (by omega))).other (by omega) _ _, (hk3.same (r2 _ (by omega))).other (by omega) _ _⟩, by rw [HLY.out, List.length_append, List.length_singleton]; omega, hB.trans (r4.1.setCell (p := ⟨P, 0, none⟩) (by show H ≤ P; omega) _)⟩
  case done =>
    rintro D ys W hD rfl ⟨⟨pv, hv, hrow⟩, ⟨hb1, hb2⟩, -, hlen, hB⟩ hK
    have cv : W.cell? ⟨P, 0, none⟩ = some pv := hv.cell 0
    have cb : W.cell? ⟨P + 1, 0, none⟩ = some (.bool (bhB key id (rowsO p l))) := hb1.cell 0
    have cm : W.cell? ⟨P + 1 + 1, 0, none⟩ = some (.bool false) := hb2.cell 0
    have hQ : Q w (W.putObj D (.deferred none)) := by
      have h1 := hB0.trans hB
      rw [HT2.out] at h1
      exact h1.trans (belowK_b (w := w) (Nat.le_refl _) W D _ _ (by have := HT2.out; omega) hK rfl rfl)
    cases hb : bhB key id (rowsO p l) with
    | false =>
      have hpg := Lib.hid (rowsPg_no (most := most) hb)
      rw [hb] at cb
      clear hb hlen hrow hv
      gi_wp2
      refine ⟨by simp, .inl ⟨_, _, rfl, run_takeDeferred hK, ?_⟩⟩
      refine ⟨_, results_tmp3 rfl _ _ _, ?_⟩
      unfold RowsC
      rw [hpg.out]
      exact ⟨none, 0, rfl, RowsV.nil _ _, hQ⟩
    | true =>
      have hpg := Lib.hid (rowsPg_all hb hlen)
      rw [hb] at cb
      obtain ⟨A2, c2, rfl⟩ := hrow.form
      have hr2 : OwnW (P + 5) (W.drew.putObj D (.deferred none)) (.slice A2 (bhL key id (rowsO p l)).length c2) (bhL key id (rowsO p l)) := ownsRow_putObj (hrow.on (Q.refl _).drew) _ hK rfl
      have hQ2 : Q w (W.drew.putObj D (.deferred none)) := by
        have h1 := hB0.trans hB
        rw [HT2.out] at h1
        exact h1.drew.trans (belowK_b (w := w) (Nat.le_refl _) W.drew D _ _ (by have := HT2.out; omega) hK rfl rfl)
      have HR2 := Lib.hid hr2
      have HQ2 := Lib.hid hQ2
      clear hb hlen hrow hv hr2 hQ2 hQ
      gi_wp2_with fail
      gi_region
      gi_wp2
      refine ⟨by simp, .inl ⟨_, _, rfl, run_takeDeferred (w := W.drew) hK, ?_⟩⟩
      refine ⟨_, results_tmp3 rfl _ _ _, ?_⟩
      unfold RowsC
      rw [hpg.out]
      exact ⟨A2, c2, rfl, HR2.out.rows, HQ2.out⟩
  case stop =>
    rintro D cc pre W hD hSp ⟨pre0, x, ⟨rfl, rfl, hb0, hlen⟩, ⟨pv, hv, hrow⟩, hb1, hb2, hB⟩ hK
    have cv : W.cell? ⟨P, 0, none⟩ = some pv := hv.cell 0
    have cb : W.cell? ⟨P + 1, 0, none⟩ = some (.bool true) := hb1.cell 0
    have cm : W.cell? ⟨P + 1 + 1, 0, none⟩ = some (.bool true) := hb2.cell 0
    have hpg := Lib.hid (rowsPg_more hSp hb0 hlen)
    obtain ⟨A2, c2, rfl⟩ := hrow.form
    have hr2 : OwnW (P + 5) (W.drew.putObj D (.deferred none)) (.slice A2 (bhL key id pre0).length c2) (bhL key id pre0) := ownsRow_putObj (hrow.on (Q.refl _).drew) _ hK rfl
    have hQ2 : Q w (W.drew.putObj D (.deferred none)) := by
      have h1 := hB0.trans hB
      rw [HT2.out] at h1
      exact h1.drew.trans (belowK_b (w := w) (Nat.le_refl _) W.drew D _ _ (by have := HT2.out; omega) hK rfl rfl)
    have HR2 := Lib.hid hr2
    have HQ2 := Lib.hid hQ2
    clear hb0 hlen hrow hv hr2 hQ2 hSp
    gi_wp2_with fail
    gi_region
    gi_wp2
    refine ⟨by simp, .inl ⟨_, _, rfl, run_takeDeferred (w := W.drew) hK, ?_⟩⟩
    refine ⟨_, results_tmp3 rfl _ _ _, ?_⟩
    unfold RowsC
    rw [hpg.out]
    exact ⟨A2, c2, rfl, HR2.out.rows, HQ2.out⟩
end Go.Proofs.Ytipipjpdlblifaa

namespace Go.Proofs.Ytipipjpdlblifaa
open Go.ChangeShapes Go.WideShapes Go.ChangeAt Go.RowKit
set_option linter.unusedVariables false
set_option linter.unusedSimpArgs false
set_option maxRecDepth 100000

set_option maxHeartbeats 2000000 in
theorem rowsP_no (l : List Ent) (v : Value) (p key : ByteArray) (id : Nat) (m : Int) (w : World) (R : Bool) (hR : chkI l R) (hs : Small l) (hp : p.size ≤ 1000) (ha : key.size ≤ 1000) (ht : Ents w w.heap.size v l) (hno : (R && hasO 0 60 ko p && pgO key m) = false) :
    Calls Try.prog 18 #[v, .string p, .string key, .int .u64 (id : Nat), .int .i64 m] w fun e w' => RowsC w ([], false, 1) e w' := by
  have qa : Q w (((w.alloc (.cells #[.string key] 9)).alloc (.cells #[.int .u64 (id : Nat)] 23)).alloc (.cells #[.int .i64 m] 3)) := (((Q.refl w).alloc _).alloc _).alloc _
  have C := Lib.hid fun b (q : Q w b) => mayList_any l v p b R hR hs hp (ht.on q)
  have G := Lib.hid fun b => mayPage_any key m b ha
  have ba := ((Bx.new w 9 #[.string key]).alloc (.cells #[.int .u64 (id : Nat)] 23)).alloc (.cells #[.int .i64 m] 3)
  have bm := Bx.new ((w.alloc (.cells #[.string key] 9)).alloc (.cells #[.int .u64 (id : Nat)] 23)) 3 #[.int .i64 m]
  simp only [World.size_alloc] at bm
  clear hR ht
  cases h : R && hasO 0 60 ko p with
  | false =>
    rw [h] at C
    go_enter Try.func18, Try.ntmps18
    go_wp2_with fail
    refine (C.out _ qa).mono ?_
    rintro e w1 ⟨rfl, q⟩
    go_wp2
    (try simp only [Exit.inBlock, Exit.then])
    exact bodyPost_ret (v := .tuple #[.slice none 0 0, .bool false, .int .i64 1]) (by simp [results, Try.results18, go_sem]) rfl ⟨none, 0, rfl, RowsV.nil _ _, qa.trans q⟩
  | true =>
    rw [h] at C hno
    rw [show pgO key m = false by simpa using hno] at G
    go_enter Try.func18, Try.ntmps18
    go_wp2_with fail
    refine (C.out _ qa).mono ?_
    rintro e w1 ⟨rfl, q1⟩
    have x0 := (ba.on q1).cell 0
    have x1 := (bm.on q1).cell 0
    simp only [List.getElem?_toArray, List.getElem?_cons_zero, List.getElem?_cons_succ] at x0 x1
    go_wp2_with fail
    refine (G.out _).mono ?_
    rintro e w2 ⟨rfl, q2⟩
    go_wp2
    (try simp only [Exit.inBlock, Exit.then])
    exact bodyPost_ret (v := .tuple #[.slice none 0 0, .bool false, .int .i64 1]) (by simp [results, Try.results18, go_sem]) rfl ⟨none, 0, rfl, RowsV.nil _ _, qa.trans (q1.trans q2)⟩
theorem okI_apart {l : List Ent} (h : okI l) {p : ByteArray} : OneR (rowsO p l) :=
  rows_one (okI_iff.1 h).2.1 fun e he i j hi hj => (((okI_iff.1 h).2.2 e he).2.2.2 j).2.2 i hj hi (by omega)
theorem okI_few {l : List Ent} (h : okI l) : ∀ e ∈ l, e.L.length ≤ 20 := fun e he => ((okI_iff.1 h).2.2 e he).2.2.1
theorem rows_whole (l : List Ent) (p key : ByteArray) (id : Nat) (m : Int) (R : Bool) (hR : chkI l R) (hs : Small l) (hp : p.size ≤ 1000) (ha : key.size ≤ 1000) :
    ∃ P : List Rw × Bool × Nat, (((R && hasO 0 60 ko p && pgO key m) = true ∧ okI l ∧ 0 ≤ m ∧ m ≤ 1000 ∧ P = rowsPg key id m.toNat (rowsO p l)) ∨ ((R && hasO 0 60 ko p && pgO key m) = false ∧ P = ([], false, 1))) ∧
      Hid (∀ b v, Ents b b.heap.size v l → Calls Try.prog 18 #[v, .string p, .string key, .int .u64 (id : Nat), .int .i64 m] b fun e w' => RowsC b P e w') := by
  cases h : R && hasO 0 60 ko p && pgO key m with
  | false => exact ⟨([], false, 1), .inr ⟨rfl, rfl⟩, Lib.hid fun b v ht => rowsP_no l v p key id m b R hR hs hp ha ht h⟩
  | true =>
    simp only [Bool.and_eq_true] at h
    have hI : okI l := by rcases hR with ⟨-, h0⟩ | ⟨h0, -⟩; exact h0; rw [h0] at h; simp at h
    have hm : 0 ≤ m ∧ m ≤ 1000 := by have := h.2; unfold pgO at this; simp only [Bool.and_eq_true, decide_eq_true_eq] at this; omega
    obtain ⟨n, rfl⟩ : ∃ n : Nat, m = n := ⟨m.toNat, by omega⟩
    exact ⟨_, .inl ⟨rfl, hI, hm.1, hm.2, rfl⟩, Lib.hid fun b v ht => by
      rw [Int.toNat_natCast]
      exact rowsP_yes l v p key id n b hI hs (fun e he => by have := okI_few hI e he; omega) h.1.2 ha h.2 ht⟩
end Go.Proofs.Ytipipjpdlblifaa
