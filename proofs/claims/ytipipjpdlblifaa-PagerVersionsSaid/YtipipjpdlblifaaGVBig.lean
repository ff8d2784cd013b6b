/-
  Octets that are read, maps of one's own, plain facts of rows page by page (GByts's first part, GMap, GVPlain, GVMap in one: a claim has few files).
-/
import Derived.Deep.DeepCutAuto
import Derived.IntWalk
import Derived.Test.YtipipjpdlblifaaGIter
import Derived.Maps.Own
import Derived.Maps.OwnOps
import Derived.Maps.Views
import Derived.StringKeys
import Derived.Test.YtipipjpdlblifaaGRBig
import Derived.Maps.OwnSet
namespace Go.Proofs.Ytipipjpdlblifaa
open Go.ChangeShapes Go.WideShapes Go.ChangeAt Go.RowKit
set_option linter.unusedVariables false
set_option linter.unusedSimpArgs false

/-- A slice whose elements are these octets; all of it lies below block B. -/
def Byts (w : World) (B : Nat) (v : Value) (l : List Nat) : Prop :=
  ∃ A c, v = .slice A l.length c ∧ l.length ≤ c ∧ ∀ k (h : k < l.length), ∃ a : Addr, A = some a ∧ a.block < B ∧ l[k] < 256 ∧ w.cell? (a.add k) = some (.int .u8 (l[k] : Nat))
theorem Byts.nil (w : World) (B : Nat) : Byts w B (.slice none 0 0) [] := ⟨none, 0, rfl, Nat.le_refl _, fun k h => absurd h (by simp)⟩
theorem Byts.on {w w' : World} {v : Value} {l : List Nat} (h : Byts w w.heap.size v l) (k : Q w w') : Byts w' w'.heap.size v l := by
  obtain ⟨A, c, e, e0, f⟩ := h
  refine ⟨A, c, e, e0, fun i hi => ?_⟩
  obtain ⟨a, e1, e2, e3, e4⟩ := f i hi
  have := k.size
  exact ⟨a, e1, by omega, e3, (k.cell (by rw [add_block]; exact e2)).trans e4⟩
theorem cells_u8 : Try.prog.cellsOf 5 = 1 := by kernel_rfl
theorem wf8 {a : Int} (h : (Lit.int .u8 a).wf = true) : ∃ n : Nat, a = n ∧ n < 256 := by
  have h2 : 0 ≤ a ∧ a ≤ 255 := by simpa [Lit.wf, IntKind.min, IntKind.max, IntKind.signed, IntKind.bits] using h
  exact ⟨a.toNat, by omega, by omega⟩
theorem open_byts {H : Type} {enc : TypeId × Value → H} {W : World} {b : Nat} {v : Value} {d : DataW H} {p : List MemPlace} (hv : Value.okWide Try.prog W .any b 47 v)
    (h : DataW.Trod enc Try.prog W 0 (fun _ => true) true 47 v d p) : ∃ l : List Nat, Byts W W.heap.size v l ∧ l.length ≤ maxLen := by
  obtain ⟨a0, len, cap, rfl⟩ := okWide_slice Try.underlying47 hv
  obtain ⟨fuel, hf⟩ := h
  rcases open_ints Try.underlying47 Try.underlying5 cells_u8 hf with ⟨hcs, hx⟩ | ⟨a, len', cap', zs, hcs, _, hl, hm, hz, hx, hcell, hws⟩
  · simp [Value.cells] at hcs
    obtain ⟨rfl, rfl, rfl⟩ := hcs
    exact ⟨[], Byts.nil _ _, by simp⟩
  · simp [Value.cells] at hcs
    obtain ⟨rfl, rfl, rfl⟩ := hcs
    simp only [if_true] at hz
    have hlen : ((zs.take len).map Int.toNat).length = len := by rw [List.length_map, List.length_take]; omega
    refine ⟨(zs.take len).map Int.toNat, ⟨some a, cap, by rw [hlen], by rw [hlen]; exact hl, fun k hk => ⟨a, rfl, ?_, ?_, ?_⟩⟩, by rw [hlen]; omega⟩
    · have := World.block_lt_of_cell? W _ (hcell k (by omega))
      rw [add_block] at this; exact this
    · obtain ⟨n, e1, e2⟩ := wf8 (hws _ (List.getElem_mem (n := k) (by omega)))
      rw [List.getElem_map, List.getElem_take, e1]; exact e2
    · obtain ⟨n, e1, e2⟩ := wf8 (hws _ (List.getElem_mem (n := k) (by omega)))
      rw [hcell k (by omega), List.getElem_map, List.getElem_take]
      have : k < zs.length := by omega
      rw [List.getD_eq_getElem?_getD, List.getElem?_eq_getElem this, Option.getD_some, e1]
      rfl
end Go.Proofs.Ytipipjpdlblifaa
namespace Go.Proofs.Ytipipjpdlblifaa
open Go.ChangeShapes Go.WideShapes Go.ChangeAt Go.RowKit
open Go.Maps (Keyed)
set_option linter.unusedVariables false
set_option linter.unusedSimpArgs false

theorem keyedS : Keyed Try.prog 9 := Maps.string_keyed Try.underlying9
/-- Block b is a map that has each of these texts in it. -/
def InM (b n : Nat) (S : List ByteArray) (w : World) : Prop :=
  ∃ D : DataW Unit, w.ownsMap Try.prog 9 (plainElem Try.prog 4) b n D ∧ ∀ s ∈ S, D.atKey (.string s.data.toList) (.lit (.bool false)) = .lit (.bool true)
theorem InM.made (w : World) : InM w.heap.size 0 [] (w.alloc (.map #[] 0)) := ⟨_, World.ownsMap_made w _ _ _, fun s h => by cases h⟩
theorem InM.on {b n : Nat} {S : List ByteArray} {w w' : World} (h : InM b n S w) (q : Q w w') : InM b n S w' := by
  obtain ⟨D, h1, h2⟩ := h
  exact ⟨D, h1.kept q.grown (by simp), h2⟩
theorem InM.get {b n : Nat} {S : List ByteArray} {w : World} (h : InM b n S w) {s : ByteArray} (hs : s ∈ S) (hz : s.size ≤ maxLen) : (Instr.lookup 48 (.map (some b)) (.string s) false).run Try.prog w = .ok (.bool true) w := by
  obtain ⟨D, h1, h2⟩ := h
  obtain ⟨v, ps, hrun, hv⟩ := h1.lookup keyedS Try.underlying48 (z := .bool false) (by rfl) (plainElem_bool Try.underlying4 false) (WideMaps.keyOf_string_mk Try.underlying9 hz)
  rw [h2 s hs] at hv
  have : v = .bool true := by
    unfold plainElem at hv
    rw [Try.underlying4] at hv
    cases v <;> simp at hv
    rw [hv.1]
  rw [hrun, this]
/-- 'in[s] = true' at the operation. -/
theorem wpList_inM_put {w : World} {ops : Array Oper} {rest : List Oper} {o : Oper} {a : Act} {Z : Exit → Act → World → Prop} {b n : Nat} {S : List ByteArray}
    (h : InM b n S w) (hg : o.guard = none) (m x v : Operand) (hop : o.op = Op.mapUpdate 48 m x v) (hn : n ≤ 1000000) (s : ByteArray) (hz : s.size ≤ 1000)
    (hm : a.eval m = .map (some b)) (hx : a.eval x = .string s) (hv : a.eval v = .bool true)
    (hK : ∀ w', InM b (n + 1) (S ++ [s]) w' → w.grownBy w' (some b) → wpList Try.prog ops Z rest (a.put o.dst undef) w') :
    wpList Try.prog ops Z (o :: rest) a w := by
  obtain ⟨D, h1, h2⟩ := h
  refine wpList_mapUpdate_own w hg m x v 48 hop 9 4 keyedS Try.underlying48 _ b n D hm h1 (by unfold maxLen; omega) (.string s) (.bool true) (.string s.data.toList) hx hv
    (WideMaps.keyOf_string_mk Try.underlying9 (by unfold maxLen; omega)) (.lit (.bool true)) [] (plainElem_bool Try.underlying4 true) fun w' o' g => ?_
  refine hK w' ⟨_, o', fun t ht => ?_⟩ g
  obtain ⟨es, clock, hb, F, hs, hD⟩ := h1
  by_cases e : (Lit.string t.data.toList) = (Lit.string s.data.toList)
  · rw [e]; exact Maps.atKey_put_same ⟨_, hD⟩ (by simp [WideAt.IsKeyLit]) _ _
  · rw [Maps.atKey_put_other e]
    refine h2 t ?_
    rcases List.mem_append.1 ht with ht | ht
    · exact ht
    · obtain rfl : t = s := by simpa using ht
      exact absurd rfl e
/-- What is there stays there while one's own map is written. -/
theorem Q.mapped {w0 w w' : World} {b : Nat} (q : Q w0 w) (g : w.grownBy w' (some b)) (hb : w0.heap.size ≤ b) : Q w0 w' :=
  Below.grown q g q.size (fun k e => by cases e; exact hb)
end Go.Proofs.Ytipipjpdlblifaa
namespace Go.Proofs.Ytipipjpdlblifaa
open Go.ChangeShapes Go.WideShapes Go.ChangeAt Go.RowKit
set_option linter.unusedVariables false
set_option linter.unusedSimpArgs false

theorem under_nil (k : ByteArray) : underO k ⟨#[]⟩ = true := by
  have h : underO k ⟨#[]⟩ = (decide ((⟨#[]⟩ : ByteArray).size ≤ k.size) && (k.extract 0 (⟨#[]⟩ : ByteArray).size).toList == (⟨#[]⟩ : ByteArray).toList) := rfl
  rw [h]
  have h1 : (⟨#[]⟩ : ByteArray).size = 0 := rfl
  have h2 : (k.extract 0 0).toList = (⟨#[]⟩ : ByteArray).toList := by
    have : (k.extract 0 0).size = 0 := by simp
    rw [(nil_text _).2 this, (nil_text (⟨#[]⟩ : ByteArray)).2 rfl]
  rw [h1, h2]; simp
theorem rows_all (l : List Ent) : rowsO ⟨#[]⟩ l = l.flatMap rowsE := by
  rw [rowsO]; congr 1; funext e; rw [under_nil]; simp
theorem many_rows (l : List Ent) : (rowsO ⟨#[]⟩ l).length = (l.map fun e => e.L.length).sum := by
  rw [rows_all, List.length_flatMap]; congr 2; funext e; exact rowsE_len e
/-- The latest rows' keys. -/
def latK (T : List Rw) : List ByteArray := (T.filter fun r => r.latest).map (·.key)
theorem latK_snoc (T : List Rw) (r : Rw) : latK (T ++ [r]) = latK T ++ (if r.latest then [r.key] else []) := by
  rw [latK, latK, List.filter_append, List.map_append]
  cases h : r.latest <;> simp [h]
theorem latK_one {e : Ent} (h : 0 < e.L.length) : latK (rowsE e) = [e.key] := by
  obtain ⟨k, L⟩ := e
  rcases L with _ | ⟨v, r⟩
  · simp at h
  · rw [latK, rowsE, List.mapIdx_cons, List.filter_cons_of_pos (by simp [rwAt]), List.map_cons]
    have : (List.mapIdx (fun i => rwAt ⟨k, v :: r⟩ (i + 1)) r).filter (fun x => x.latest) = [] := by
      rw [List.filter_eq_nil_iff]
      intro x hx
      obtain ⟨i, hi, rfl⟩ := List.getElem_of_mem hx
      rw [List.getElem_mapIdx]
      simp [rwAt]
    rw [this]; rfl
theorem latK_all {l : List Ent} (h : ∀ e ∈ l, 0 < e.L.length) : latK (rowsO ⟨#[]⟩ l) = l.map (·.key) := by
  rw [rows_all]
  induction l with
  | nil => rfl
  | cons e r ih =>
    have h1 := ih fun x hx => h x (by simp [hx])
    rw [latK] at h1
    rw [List.flatMap_cons, latK, List.filter_append, List.map_append, h1, List.map_cons]
    have h2 := latK_one (h e (by simp))
    rw [latK] at h2
    rw [h2]; rfl
/-- Where the n-th row stands. -/
theorem frm_at {key : ByteArray} {id : Nat} {T : List Rw} (hu : OneR T) {n : Nat} (hn : n < T.length) (hr : isR key id T[n] = true) : ∀ i, n + 1 ≤ i → i ≤ T.length → frm key id T i = n + 1 := by
  intro i
  induction i with
  | zero => intro h; omega
  | succ i ih =>
    intro h1 h2
    by_cases e : i = n
    · subst e; exact frm_hit hn hr
    · have hm : isR key id T[i] = false := by
        cases h : isR key id T[i] with
        | false => rfl
        | true =>
          obtain ⟨a1, a2⟩ := isR_iff.1 h
          obtain ⟨b1, b2⟩ := isR_iff.1 hr
          have := List.pairwise_iff_getElem.1 hu n i hn (by omega) (by omega)
          exact absurd ⟨by rw [b1, a1], by rw [b2, a2]⟩ this
      rw [frm_miss (by omega) hm]
      exact ih (by omega) (by omega)
/-- The page behind the n-th row. -/
theorem page_at {key : ByteArray} {id most : Nat} {T : List Rw} (hu : OneR T) (hk : ¬ key.size = 0) {n : Nat} (hn : n < T.length) (hr : isR key id T[n] = true) :
    rowsPg key id most T = ((T.drop (n + 1)).take most, decide (n + 1 + most < T.length), 0) := by
  rw [rowsPg_doc hu hk, frm_at hu hn hr T.length (by omega) (Nat.le_refl _), if_neg (by omega)]
end Go.Proofs.Ytipipjpdlblifaa
namespace Go.Proofs.Ytipipjpdlblifaa
open Go.ChangeShapes Go.WideShapes Go.ChangeAt Go.RowKit
open Go.Maps (Keyed)
set_option linter.unusedVariables false
set_option linter.unusedSimpArgs false
set_option maxRecDepth 100000

/-- Block b is a map that has just these texts in it. -/
def InC (b n : Nat) (S : List ByteArray) (w : World) : Prop :=
  ∃ D : DataW Unit, w.ownsMap Try.prog 9 (plainElem Try.prog 3) b n D ∧ Maps.size D = S.length ∧ ∀ s : ByteArray, s ∉ S → Maps.has D (.string s.data.toList) = false
theorem InC.made (w : World) : InC w.heap.size 0 [] (w.alloc (.map #[] 0)) := ⟨_, World.ownsMap_made w _ _ _, rfl, fun _ _ => rfl⟩
theorem InC.on {b n : Nat} {S : List ByteArray} {w w' : World} (h : InC b n S w) (q : Q w w') : InC b n S w' := by
  obtain ⟨D, h1, h2⟩ := h
  exact ⟨D, h1.kept q.grown (by simp), h2⟩
theorem InC.more {b n m : Nat} {S : List ByteArray} {w : World} (h : InC b n S w) (k : n ≤ m) : InC b m S w := by
  obtain ⟨D, h1, h2⟩ := h
  exact ⟨D, h1.mono k, h2⟩
theorem InC.new {b n : Nat} {S : List ByteArray} {w : World} (h : InC b n S w) {s : ByteArray} (hs : s ∉ S) (hz : s.size ≤ maxLen) : (Instr.lookup 53 (.map (some b)) (.string s) false).run Try.prog w = .ok (.int .i64 0) w := by
  obtain ⟨D, h1, -, h3⟩ := h
  obtain ⟨c, hrun, hat, hwc⟩ := h1.lookup_int keyedS Try.underlying53 Try.underlying3 (by rfl) (WideMaps.keyOf_string_mk Try.underlying9 hz)
  rw [Maps.atKey_of_not_has (h3 s hs)] at hat
  injection hat with hat
  injection hat with _ hat
  rw [hrun, ← hat]
theorem InC.len {b n : Nat} {S : List ByteArray} {w : World} (h : InC b n S w) (ty : TypeId) : (Builtin.len_ #[53] ty #[.map (some b)]).run Try.prog w = .ok (.int .i64 (S.length : Nat)) w := by
  obtain ⟨D, h1, h2, -⟩ := h
  rw [← h2]
  exact h1.len Try.underlying53 ty
/-- 'm[s]++' at the store, where s is new. -/
theorem wpList_inC_put {w : World} {ops : Array Oper} {rest : List Oper} {o : Oper} {a : Act} {Z : Exit → Act → World → Prop} {b n : Nat} {S : List ByteArray}
    (h : InC b n S w) (hg : o.guard = none) (m x v : Operand) (hop : o.op = Op.mapUpdate 53 m x v) (hn : n ≤ 1000000) (s : ByteArray) (hs : s ∉ S) (hz : s.size ≤ 1000)
    (hm : a.eval m = .map (some b)) (hx : a.eval x = .string s) (hv : a.eval v = .int .i64 1)
    (hK : ∀ w', InC b (n + 1) (S ++ [s]) w' → w.grownBy w' (some b) → wpList Try.prog ops Z rest (a.put o.dst undef) w') :
    wpList Try.prog ops Z (o :: rest) a w := by
  obtain ⟨D, h1, h2, h3⟩ := h
  have ht := h1.tidy keyedS
  refine wpList_mapUpdate_own w hg m x v 53 hop 9 3 keyedS Try.underlying53 _ b n D hm h1 (by unfold maxLen; omega) (.string s) (.int .i64 1) (.string s.data.toList) hx hv
    (WideMaps.keyOf_string_mk Try.underlying9 (by unfold maxLen; omega)) (.lit (.int .i64 1)) [] (plainElem_int Try.underlying3 (by decide)) fun w' o' g => ?_
  refine hK w' ⟨_, o', ?_, fun t ht' => ?_⟩ g
  · rw [Maps.size_put ht, h3 s hs, if_neg (by simp), h2, List.length_append, List.length_singleton]
  · have hne : (Lit.string t.data.toList) ≠ (Lit.string s.data.toList) := by
      intro e
      injection e with e
      refine ht' (List.mem_append.2 (.inr ?_))
      have : t = s := by cases t; cases s; congr 1; exact Array.toList_inj.1 e
      rw [this]; simp
    rw [Maps.has_put_other hne]
    exact h3 t fun hm => ht' (List.mem_append.2 (.inl hm))
/-- Where one asks from, behind n rows. -/
def kyN (T : List Rw) : Nat → ByteArray
  | 0 => ⟨#[]⟩
  | n + 1 => match T[n]? with | some r => r.key | none => ⟨#[]⟩
def idN (T : List Rw) : Nat → Nat
  | 0 => 0
  | n + 1 => match T[n]? with | some r => r.id | none => 0
theorem kyN_succ {T : List Rw} {n : Nat} (h : n < T.length) : kyN T (n + 1) = T[n].key ∧ idN T (n + 1) = T[n].id := by
  rw [kyN, idN, List.getElem?_eq_getElem h]; exact ⟨rfl, rfl⟩
theorem rows_key {l : List Ent} (h : okI l) {p : ByteArray} {r : Rw} (hr : r ∈ rowsO p l) : hasO 1 60 ko r.key = true := by
  rw [rowsO, List.mem_flatMap] at hr
  obtain ⟨e, he, hr⟩ := hr
  split at hr
  · obtain ⟨i, hi, rfl⟩ := rowsE_mem hr
    exact ((okI_iff.1 h).2.2 e he).1
  · cases hr
/-- The page that one gets there. -/
theorem page_n {l : List Ent} (h : okI l) {T : List Rw} (hT : T = rowsO ⟨#[]⟩ l) {n m : Nat} (hn : n ≤ T.length) :
    rowsPg (kyN T n) (idN T n) m T = ((T.drop n).take m, decide (n + m < T.length), 0) ∧ (kyN T n).size ≤ 60 ∧ (kyN T n = ⟨#[]⟩ ∨ hasO 1 60 ko (kyN T n) = true) := by
  rcases n with _ | n
  · refine ⟨?_, Nat.zero_le 60, .inl rfl⟩
    rw [show kyN T 0 = ⟨#[]⟩ from rfl, rowsPg_first rfl]; simp
  · obtain ⟨e1, e2⟩ := kyN_succ (T := T) (n := n) (by omega)
    have hk := rows_key h (p := ⟨#[]⟩) (r := T[n]) (by rw [← hT]; exact List.getElem_mem _)
    have hz := hasO_size hk
    rw [e1, e2]
    refine ⟨?_, hz.2, .inr hk⟩
    have hu : OneR T := by rw [hT]; exact okI_apart h
    exact page_at hu (by omega) (by omega) (isR_iff.2 ⟨rfl, rfl⟩)
theorem pgO_n {k : ByteArray} {m : Nat} (h : k = ⟨#[]⟩ ∨ hasO 1 60 ko k = true) (hm : m ≤ 1000) : pgO k (m : Int) = true := by
  unfold pgO
  have h1 : (decide (k.size = 0) || hasO 1 60 ko k) = true := by
    rcases h with rfl | h
    · rfl
    · rw [h]; simp
  rw [h1]; simp; omega
/-- A cut of rows. -/
theorem RowsV.cut {w : World} {B : Nat} {a : Addr} {N c : Nat} {T : List Rw} (h : RowsV w B (.slice (some a) N c) T) {n K : Nat} (hk : n + K ≤ T.length) : RowsV w B (.slice (some (a.add (n * 5))) K (c - n)) ((T.drop n).take K) := by
  obtain ⟨A', c', e, e0, f⟩ := h
  injection e with e1 e2 e3
  have hl : ((T.drop n).take K).length = K := by rw [List.length_take, List.length_drop]; omega
  refine ⟨_, _, by rw [hl], by rw [hl]; omega, fun k hk' => ?_⟩
  rw [hl] at hk'
  obtain ⟨a', ea, hb, hr⟩ := f (n + k) (by omega)
  rw [← e1] at ea
  injection ea with ea
  subst ea
  refine ⟨_, rfl, by rw [add_block]; exact hb, ?_⟩
  have h3 : (a.add (n * 5)).add (k * 5) = a.add ((n + k) * 5) := by
    unfold Addr.add
    by_cases g1 : n * 5 = 0
    · have : n = 0 := by omega
      subst this; simp
    · by_cases g2 : k * 5 = 0
      · have : k = 0 := by omega
        subst this; simp
      · rw [if_neg g1, if_neg g2, if_neg (by omega)]
        simp; omega
  rw [h3]
  have h4 : ((T.drop n).take K)[k]'(by rw [hl]; exact hk') = T[n + k]'(by omega) := by rw [List.getElem_take, List.getElem_drop]
  rw [h4]; exact hr
theorem kyN_zero (T : List Rw) : kyN T 0 = ⟨#[]⟩ := rfl
theorem idN_zero (T : List Rw) : idN T 0 = 0 := rfl
theorem RowsV.none (w : World) (B : Nat) (A : Option Addr) (c : Nat) : RowsV w B (.slice A 0 c) [] := ⟨A, c, rfl, Nat.zero_le _, fun k h => absurd h (by simp)⟩
/-- The page from there, as a call. -/
theorem rows_page {L : List Ent} {T : List Rw} (hI : okI L) (hR : chkI L true) (hs : Small L) (hT : T = rowsO ⟨#[]⟩ L) {n m : Nat} (hn : n ≤ T.length) (hm : m ≤ 1000) :
    ∃ K, n + K ≤ T.length ∧ K ≤ m ∧ (n + m < T.length → K = m) ∧ (¬ n + m < T.length → n + K = T.length) ∧
      Hid (∀ b v, Ents b b.heap.size v L → Calls Try.prog 18 #[v, .string ⟨#[]⟩, .string (kyN T n), .int .u64 (idN T n : Nat), .int .i64 (m : Nat)] b fun e w' =>
        ∃ A c, e = .returned (.tuple #[.slice A K c, .bool (decide (n + m < T.length)), .int .i64 0]) ∧ RowsV w' w'.heap.size (.slice A K c) ((T.drop n).take K) ∧ Q b w') := by
  obtain ⟨p1, p2, p3⟩ := page_n hI hT hn (m := m)
  obtain ⟨P, hP, KC⟩ := rows_whole L ⟨#[]⟩ (kyN T n) (idN T n) m true hR hs (by decide) (by omega)
  have hP' : P = ((T.drop n).take m, decide (n + m < T.length), 0) := by
    rcases hP with ⟨-, -, -, -, h⟩ | ⟨h, -⟩
    · rw [h, Int.toNat_natCast, ← hT, p1]
    · rw [pgO_n p3 hm, show hasO 0 60 ko ⟨#[]⟩ = true by decide +kernel] at h; simp at h
  subst hP'
  unfold RowsC at KC
  simp only at KC
  by_cases h : n + m < T.length
  · refine ⟨m, by omega, Nat.le_refl _, fun _ => rfl, fun k => absurd h k, Lib.hid fun b v hv => (KC.out b v hv).mono ?_⟩
    rintro e w' ⟨A, c, e1, e2, q⟩
    have hl : ((T.drop n).take m).length = m := by rw [List.length_take, List.length_drop]; omega
    rw [hl] at e1 e2
    exact ⟨A, c, e1, e2, q⟩
  · refine ⟨T.length - n, by omega, by omega, fun k => absurd k h, fun _ => by omega, Lib.hid fun b v hv => (KC.out b v hv).mono ?_⟩
    rintro e w' ⟨A, c, e1, e2, q⟩
    have hl : ((T.drop n).take m).length = T.length - n := by rw [List.length_take, List.length_drop]; omega
    have he : (T.drop n).take m = (T.drop n).take (T.length - n) := by rw [List.take_of_length_le (by rw [List.length_drop]; omega), List.take_of_length_le (by rw [List.length_drop]; omega)]
    rw [hl] at e1 e2
    rw [he] at e2
    exact ⟨A, c, e1, e2, q⟩
end Go.Proofs.Ytipipjpdlblifaa
