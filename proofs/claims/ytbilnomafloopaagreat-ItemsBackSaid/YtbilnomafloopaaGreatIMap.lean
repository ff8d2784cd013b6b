/-
  A map of one's own from names to items, as it lies in memory: what is laid in it, deleted, looked up; the range over it.
-/
import Derived.Test.YtbilnomafloopaaGreatIPlain
import Derived.Maps.OwnIn
import Derived.Maps.OwnSet
import Derived.Maps.RangeRun
import Derived.StringKeys
namespace Go.Proofs.YtbilnomafloopaaGreat
set_option maxRecDepth 100000
open Go.ChangeShapes Go.WideShapes Go.ChangeAt Go.RowKit
open Go.ChangeMaps (setBlock)
set_option linter.unusedVariables false
set_option linter.unusedSimpArgs false

theorem heap_new (W : World) (o : Obj) : (W.alloc o).heap[W.heap.size]? = some o := by
  show (W.heap.push o)[W.heap.size]? = some o
  exact Array.getElem?_push_size
/-- Block B holds these cells. -/
def Bx (W : World) (B : Nat) (t : TypeId) (cs : Array Value) : Prop := W.heap[B]? = some (.cells cs t (0, 0))
theorem Bx.lt {W : World} {B : Nat} {t : TypeId} {cs : Array Value} (h : Bx W B t cs) : B < W.heap.size := (Array.getElem?_eq_some_iff.1 h).1
theorem Bx.cell {W : World} {B : Nat} {t : TypeId} {cs : Array Value} (h : Bx W B t cs) (i : Nat) : W.cell? ⟨B, i, none⟩ = cs[i]? := by simp [World.cell?, show W.heap[B]? = _ from h]
theorem Bx.frozen {W : World} {B : Nat} {t : TypeId} {cs : Array Value} (h : Bx W B t cs) (i : Nat) : W.frozen? ⟨B, i, none⟩ = false := by simp [World.frozen?, show W.heap[B]? = _ from h]
theorem Bx.new (W : World) (t : TypeId) (cs : Array Value) : Bx (W.alloc (.cells cs t)) W.heap.size t cs := heap_new W _
theorem Bx.same {W W' : World} {B : Nat} {t : TypeId} {cs : Array Value} (h : Bx W B t cs) (e : W'.heap[B]? = W.heap[B]?) : Bx W' B t cs := e.trans h
theorem Bx.on {W W' : World} {B : Nat} {t : TypeId} {cs : Array Value} (h : Bx W B t cs) (q : Q W W') : Bx W' B t cs := (q.block B h.lt).trans h
theorem Bx.alloc {W : World} {B : Nat} {t : TypeId} {cs : Array Value} (h : Bx W B t cs) (o : Obj) : Bx (W.alloc o) B t cs := h.on ((Q.refl _).alloc o)
theorem Bx.set {W : World} {B : Nat} {t : TypeId} {cs : Array Value} (h : Bx W B t cs) (i : Nat) (u : Value) : Bx (W.setCell ⟨B, i, none⟩ u) B t (cs.setIfInBounds i u) := by
  obtain ⟨hlt, hk⟩ := Array.getElem?_eq_some_iff.1 h
  show (W.heap.modify B _)[B]? = _
  rw [Array.getElem?_eq_getElem (by rw [Array.size_modify]; exact hlt), Array.getElem_modify_self, hk]
  rfl
theorem heap_set (W : World) (B i : Nat) (u : Value) {k : Nat} (h : k ≠ B) : (W.setCell ⟨B, i, none⟩ u).heap[k]? = W.heap[k]? := Below.heap_setCell _ _ _ k (by simpa using h)
theorem Bx.other {W : World} {B B2 : Nat} {t : TypeId} {cs : Array Value} (h : Bx W B t cs) (k : B ≠ B2) (i : Nat) (u : Value) : Bx (W.setCell ⟨B2, i, none⟩ u) B t cs := (heap_set W B2 i u k).trans h
theorem grown_set (W : World) (b i : Nat) (v : Value) : W.grownBy (W.setCell ⟨b, i, none⟩ v) (some b) :=
  ⟨rfl, rfl, rfl, by simp, fun k _ hk => heap_set W b i v (fun e => hk (by rw [e]))⟩
/-- A row of the call's own stays where a block below base is written. -/
theorem ownsRow_set {w : World} {base size n : Nat} {e : TypeId} {v : Value} {xs : List Value} (h : w.ownsRow base e size v n xs) {b i : Nat} {u : Value} (hb : b < base) : (w.setCell ⟨b, i, none⟩ u).ownsRow base e size v n xs := by
  refine World.ownsRow.kept h (grown_set w b i u) ?_
  cases e : v.ownBlock with
  | none => exact .inl rfl
  | some k => refine .inr fun e2 => ?_; injection e2 with e2; have := (World.ownsRow.lt h k e).1; omega
/-- Nothing that was there has changed, but block p. -/
def Kp (p : Nat) (w w' : World) : Prop := w.grownBy w' (some p)
theorem Kp.of {p : Nat} {w w' : World} (q : Q w w') : Kp p w w' := ⟨q.os, q.tape, q.output, q.size, fun k hk _ => q.block k hk⟩
theorem Kp.trans {p : Nat} {a b c : World} (h : Kp p a b) (k : Kp p b c) : Kp p a c :=
  ⟨k.os.trans h.os, k.tape.trans h.tape, k.output.trans h.output, Nat.le_trans h.size k.size, fun i hi hn => (k.block i (Nat.lt_of_lt_of_le hi h.size) hn).trans (h.block i hi hn)⟩
theorem Kp.set {p : Nat} {a b : World} (h : Kp p a b) (i : Nat) (u : Value) : Kp p a (b.setCell ⟨p, i, none⟩ u) := h.trans (grown_set b p i u)
theorem Kp.q {p : Nat} {w0 w w' : World} (q : Q w0 w) (h : Kp p w w') (hp : w0.heap.size ≤ p) : Q w0 w' :=
  Below.grown q h q.size (fun k e => by injection e with e; omega)
theorem Kp.bx {p B : Nat} {w w' : World} {t : TypeId} {cs : Array Value} (h : Kp p w w') (b : Bx w B t cs) (hn : B ≠ p) : Bx w' B t cs :=
  b.same (h.block B b.lt (fun e => hn (by injection e)))
/-- A map's block holds no cells: they stay where it is written. -/
theorem map_cells {w : World} {b : Nat} {es : Array MapEntry} {clock : Nat} (hb : w.heap[b]? = some (.map es clock)) (o : Obj) : ∀ (q : Addr) (v : Value), w.cell? q = some v → (setBlock w b o).cell? q = some v := by
  intro q v hp
  have hne : q.block ≠ b := by
    intro e
    obtain ⟨B, k, x⟩ := q
    simp only at e
    subst e
    cases x <;> simp [World.cell?, hb] at hp
  have hh : (setBlock w b o).heap[q.block]? = w.heap[q.block]? := by
    show (w.heap.setIfInBounds b o)[q.block]? = _
    rw [Array.getElem?_setIfInBounds, if_neg (fun e => hne e.symm)]
  rw [World.cell?_of_block hh]
  exact hp
theorem map_kp (w : World) (b : Nat) (o : Obj) : Kp b w (setBlock w b o) :=
  ⟨rfl, rfl, rfl, by simp [setBlock], fun k _ hn => by
    show (w.heap.setIfInBounds b o)[k]? = _
    rw [Array.getElem?_setIfInBounds, if_neg (fun e => hn (by rw [e]))]⟩

abbrev mapI : Nat := 90
theorem str_law : WideMaps.KeyLaw Tryz.prog 9 := WideMaps.string_law Tryz.underlying9
theorem keyS_of {k : ByteArray} (h : k.size ≤ maxLen) : keyOf Tryz.prog 9 (.string k) = some (.string k.data.toList) := WideMaps.keyOf_string_mk Tryz.underlying9 h
theorem str_v {a b : ByteArray} (h : Value.string a = Value.string b) : a = b := by injection h
/-- The entries tell just these items. -/
def MI (es : List MapEntry) (clock : Nat) (L : List Itm) : Prop :=
  (∀ e ∈ es, e.born < clock ∧ ∃ x ∈ L, e.key = .string x.n ∧ e.val = itm x) ∧ (es.map (·.born)).Nodup ∧ es.Pairwise (fun a b => a.key ≠ b.key) ∧ (∀ x ∈ L, ∃ e ∈ es, e.key = .string x.n ∧ e.val = itm x)
theorem MI.nil : MI [] 0 [] := ⟨by simp, by simp, by simp, by simp⟩
theorem parted {α : Type} {l : List α} {j : Nat} {e : α} (h : l[j]? = some e) : l = l.take j ++ e :: l.drop (j + 1) ∧ (l.take j).length = j := by
  obtain ⟨hj, rfl⟩ := List.getElem?_eq_some_iff.1 h
  refine ⟨?_, by simp; omega⟩
  rw [← List.drop_eq_getElem_cons hj, List.take_append_drop]
theorem MI.find {es : List MapEntry} {clock : Nat} {L : List Itm} (h : MI es clock L) (hs : ∀ x ∈ L, x.n.size ≤ maxLen) {k : ByteArray} (hk : k.size ≤ maxLen) (w : World) :
    ((Instr.findKey 9 (.string k) es).run Tryz.prog w = .ok none w ∧ ∀ e ∈ es, e.key ≠ .string k) ∨
    ∃ pre e post, es = pre ++ e :: post ∧ e.key = .string k ∧ (Instr.findKey 9 (.string k) es).run Tryz.prog w = .ok (some (pre.length, e.val)) w ∧ (∀ a ∈ pre ++ post, a.key ≠ .string k) := by
  rcases str_law.find w (keyS_of hk) es (fun e he => by obtain ⟨-, x, hx, e1, -⟩ := h.1 e he; rw [e1]; exact ⟨_, keyS_of (hs x hx)⟩) with ⟨a, b⟩ | ⟨j, e, a, b, c⟩
  · exact .inl ⟨a, b⟩
  · obtain ⟨e1, e2⟩ := parted b
    refine .inr ⟨es.take j, e, es.drop (j + 1), e1, c, by rw [e2]; exact a, ?_⟩
    have hp := h.2.2.1
    rw [e1, List.pairwise_append] at hp
    intro x hx
    rcases List.mem_append.1 hx with hx | hx
    · have := hp.2.2 x hx e (by simp); rw [c] at this; exact this
    · have := (List.pairwise_cons.1 hp.2.1).1 x hx; rw [c] at this; exact fun e => this e.symm
theorem MI.new {es : List MapEntry} {clock : Nat} {L : List Itm} (h : MI es clock L) {x : Itm} (hx : ∀ e ∈ es, e.key ≠ .string x.n) : MI (es ++ [⟨.string x.n, itm x, clock⟩]) (clock + 1) (inG Itm.n L x) := by
  obtain ⟨h1, h2, h3, h4⟩ := h
  refine ⟨fun e he => ?_, ?_, ?_, fun y hy => ?_⟩
  · rcases List.mem_append.1 he with he | he
    · obtain ⟨b, y, hy, e1, e2⟩ := h1 e he
      refine ⟨by omega, y, inG_mem.2 (.inr ⟨hy, fun q => hx e he (by rw [e1, q])⟩), e1, e2⟩
    · simp only [List.mem_singleton] at he
      subst he
      exact ⟨Nat.lt_succ_self _, x, inG_mem.2 (.inl rfl), rfl, rfl⟩
  · rw [List.map_append, List.nodup_append]
    refine ⟨h2, by simp, fun a ha b hb => ?_⟩
    obtain ⟨e, he, rfl⟩ := List.mem_map.1 ha
    simp at hb
    have := (h1 e he).1
    omega
  · rw [List.pairwise_append]
    refine ⟨h3, by simp, fun a ha b hb => ?_⟩
    simp only [List.mem_singleton] at hb
    subst hb
    exact hx a ha
  · rcases inG_mem.1 hy with rfl | ⟨hy, hn⟩
    · exact ⟨_, List.mem_append.2 (.inr (List.mem_singleton.2 rfl)), rfl, rfl⟩
    · obtain ⟨e, he, e1, e2⟩ := h4 y hy
      exact ⟨e, List.mem_append.2 (.inl he), e1, e2⟩
theorem MI.over {pre post : List MapEntry} {e : MapEntry} {clock : Nat} {L : List Itm} (h : MI (pre ++ e :: post) clock L) {x : Itm} (he : e.key = .string x.n) (ho : ∀ a ∈ pre ++ post, a.key ≠ .string x.n) :
    MI (pre ++ ⟨.string x.n, itm x, e.born⟩ :: post) clock (inG Itm.n L x) := by
  obtain ⟨h1, h2, h3, h4⟩ := h
  have hin : ∀ a, a ∈ pre ++ post → a ∈ pre ++ e :: post := fun a ha => by
    rcases List.mem_append.1 ha with q | q
    · exact List.mem_append.2 (.inl q)
    · exact List.mem_append.2 (.inr (List.mem_cons_of_mem _ q))
  have hout : ∀ (d : MapEntry) a, a ∈ pre ++ d :: post → a = d ∨ a ∈ pre ++ post := fun d a ha => by
    rcases List.mem_append.1 ha with q | q
    · exact .inr (List.mem_append.2 (.inl q))
    · rcases List.mem_cons.1 q with q | q
      · exact .inl q
      · exact .inr (List.mem_append.2 (.inr q))
  refine ⟨fun a ha => ?_, ?_, ?_, fun y hy => ?_⟩
  · rcases hout _ a ha with rfl | ha
    · exact ⟨(h1 e (by simp)).1, x, inG_mem.2 (.inl rfl), rfl, rfl⟩
    · obtain ⟨b, y, hy, e1, e2⟩ := h1 a (hin a ha)
      exact ⟨b, y, inG_mem.2 (.inr ⟨hy, fun q => ho a ha (by rw [e1, q])⟩), e1, e2⟩
  · simpa using h2
  · rw [List.pairwise_append] at h3 ⊢
    refine ⟨h3.1, List.pairwise_cons.2 ⟨fun a ha q => ho a (List.mem_append.2 (.inr ha)) q.symm, (List.pairwise_cons.1 h3.2.1).2⟩, fun a ha b hb => ?_⟩
    rcases List.mem_cons.1 hb with rfl | hb
    · exact ho a (List.mem_append.2 (.inl ha))
    · exact h3.2.2 a ha b (List.mem_cons_of_mem _ hb)
  · rcases inG_mem.1 hy with rfl | ⟨hy, hn⟩
    · exact ⟨⟨.string y.n, itm y, e.born⟩, by simp, rfl, rfl⟩
    · obtain ⟨a, ha, e1, e2⟩ := h4 y hy
      rcases hout _ a ha with q | q
      · rw [q, he] at e1; exact absurd (str_v e1).symm hn
      · refine ⟨a, ?_, e1, e2⟩
        rcases List.mem_append.1 q with q | q
        · exact List.mem_append.2 (.inl q)
        · exact List.mem_append.2 (.inr (List.mem_cons_of_mem _ q))
theorem MI.gone {pre post : List MapEntry} {e : MapEntry} {clock : Nat} {L : List Itm} (h : MI (pre ++ e :: post) clock L) {k : ByteArray} (he : e.key = .string k) (ho : ∀ a ∈ pre ++ post, a.key ≠ .string k) :
    MI (pre ++ post) clock (L.filter (fun y => decide (y.n ≠ k))) := by
  obtain ⟨h1, h2, h3, h4⟩ := h
  have hsub : (pre ++ post).Sublist (pre ++ e :: post) := (List.Sublist.refl _).append (List.sublist_cons_self _ _)
  refine ⟨fun a ha => ?_, h2.sublist (hsub.map _), h3.sublist hsub, fun y hy => ?_⟩
  · obtain ⟨b, y, hy, e1, e2⟩ := h1 a (hsub.subset ha)
    exact ⟨b, y, List.mem_filter.2 ⟨hy, by simp only [decide_eq_true_eq]; exact fun q => ho a ha (by rw [e1, q])⟩, e1, e2⟩
  · obtain ⟨hy, hn⟩ := List.mem_filter.1 hy
    simp only [decide_eq_true_eq] at hn
    obtain ⟨a, ha, e1, e2⟩ := h4 y hy
    refine ⟨a, ?_, e1, e2⟩
    rcases List.mem_append.1 ha with q | q
    · exact List.mem_append.2 (.inl q)
    · rcases List.mem_cons.1 q with q | q
      · rw [q, he] at e1; exact absurd (str_v e1).symm hn
      · exact List.mem_append.2 (.inr q)
theorem MI.keep {es : List MapEntry} {clock : Nat} {L : List Itm} (h : MI es clock L) {k : ByteArray} (ho : ∀ a ∈ es, a.key ≠ .string k) : L.filter (fun y => decide (y.n ≠ k)) = L := by
  refine List.filter_eq_self.2 fun y hy => ?_
  obtain ⟨a, ha, e1, -⟩ := h.2.2.2 y hy
  simp only [decide_eq_true_eq]
  exact fun q => ho a ha (by rw [e1, q])
theorem modify_at {α : Type} (pre post : List α) (e : α) (f : α → α) : ((pre ++ e :: post).toArray.modify pre.length f) = (pre ++ f e :: post).toArray := by
  apply Array.ext
  · simp
  · intro i h1 h2
    simp only [Array.getElem_modify, List.getElem_toArray]
    by_cases hi : pre.length = i
    · subst hi; simp
    · rw [if_neg hi]
      by_cases hl : i < pre.length
      · rw [List.getElem_append_left hl, List.getElem_append_left hl]
      · rw [List.getElem_append_right (by omega), List.getElem_append_right (by omega)]
        obtain ⟨j, hj⟩ : ∃ j, i - pre.length = j + 1 := ⟨i - pre.length - 1, by omega⟩
        simp only [hj, List.getElem_cons_succ]
theorem erase_at {α : Type} (pre post : List α) (e : α) : ((pre ++ e :: post).toArray.eraseIdxIfInBounds pre.length) = (pre ++ post).toArray := by
  unfold Array.eraseIdxIfInBounds
  rw [dif_pos (by simp)]
  simp [List.eraseIdx_append_of_length_le]
/-- A map of one's own has just these items. -/
def MapI (p n : Nat) (L : List Itm) (w : World) : Prop := ∃ es clock, w.heap[p]? = some (.map es clock) ∧ MI es.toList clock L ∧ es.size ≤ n
theorem MapI.made (w : World) : MapI w.heap.size 0 [] (w.alloc (.map #[] 0)) := ⟨#[], 0, heap_new w _, MI.nil, Nat.le_refl _⟩
theorem MapI.more {p n m : Nat} {L : List Itm} {w : World} (h : MapI p n L w) (k : n ≤ m) : MapI p m L w := by obtain ⟨es, c, hb, hm, hn⟩ := h; exact ⟨es, c, hb, hm, Nat.le_trans hn k⟩
theorem MapI.lt {p n : Nat} {L : List Itm} {w : World} (h : MapI p n L w) : p < w.heap.size := by obtain ⟨es, c, hb, -⟩ := h; exact lt_of_block hb
theorem MapI.on {p n : Nat} {L : List Itm} {w w' : World} (h : MapI p n L w) (q : Q w w') : MapI p n L w' := by
  obtain ⟨es, c, hb, hm⟩ := h; exact ⟨es, c, (q.block p (lt_of_block hb)).trans hb, hm⟩
theorem MapI.kp {p n r : Nat} {L : List Itm} {w w' : World} (h : MapI p n L w) (g : Kp r w w') (hn : p ≠ r) : MapI p n L w' := by
  obtain ⟨es, c, hb, hm⟩ := h; exact ⟨es, c, (g.block p (lt_of_block hb) (by simpa using hn)).trans hb, hm⟩
theorem set_map {w : World} {b : Nat} {es : Array MapEntry} {clock : Nat} (hb : w.heap[b]? = some (.map es clock)) (o : Obj) : (setBlock w b o).heap[b]? = some o := by
  have hlt := lt_of_block hb
  show (w.heap.setIfInBounds b o)[b]? = _
  simp [hlt]
theorem MapI.put {p n : Nat} {L : List Itm} {w : World} (h : MapI p n L w) (hs : ∀ x ∈ L, x.n.size ≤ maxLen) {x : Itm} (hk : x.n.size ≤ maxLen) :
    ∃ w', (Instr.mapUpdate mapI (.map (some p)) (.string x.n) (itm x)).run Tryz.prog w = .ok () w' ∧ MapI p (n + 1) (inG Itm.n L x) w' ∧ Kp p w w' ∧ (∀ (q : Addr) (v : Value), w.cell? q = some v → w'.cell? q = some v) := by
  obtain ⟨es, clock, hb, hm, hsz⟩ := h
  have hc : ∀ em, (Instr.checkKey em 10000 9 (.string x.n)).run Tryz.prog w = .ok () w := fun em => str_law.check w em (keyS_of hk)
  rcases hm.find hs hk w with ⟨hf, ho⟩ | ⟨pre, e, post, he, hek, hf, ho⟩
  · refine ⟨setBlock w p (.map (es.push ⟨.string x.n, itm x, clock⟩) (clock + 1)), ?_, ⟨_, _, set_map hb _, ?_, by simp; omega⟩, map_kp _ _ _, map_cells hb _⟩
    · simp [Instr.mapUpdate, run_underlying Tryz.underlying90, MapKept.run_getObj_map hb, hc, hf, MapKept.run_setObj_map _ hb, Result.andThen, setBlock]
    · rw [Array.toList_push]; exact hm.new ho
  · have ee : es = (pre ++ e :: post).toArray := by rw [← he]
    have hkt : ∀ u : World, (Instr.keyThatStays (.string x.n) (.string x.n)).run Tryz.prog u = .ok (.string x.n) u := fun u => str_law.stays u (keyS_of hk)
    have hgk : ((es[pre.length]?.map (·.key)).getD (.string x.n)) = .string x.n := by rw [ee]; simp [hek]
    refine ⟨setBlock w p (.map (es.modify pre.length fun e => { e with key := .string x.n, val := itm x }) clock), ?_, ⟨_, _, set_map hb _, ?_, by simp; omega⟩, map_kp _ _ _, map_cells hb _⟩
    · simp [Instr.mapUpdate, run_underlying Tryz.underlying90, MapKept.run_getObj_map hb, hc, hf, hgk, hkt, MapKept.run_setObj_map _ hb, Result.andThen, setBlock]
    · rw [ee, modify_at]
      rw [he] at hm
      exact hm.over hek ho
theorem MapI.del {p n : Nat} {L : List Itm} {w : World} (h : MapI p n L w) (hs : ∀ x ∈ L, x.n.size ≤ maxLen) {k : ByteArray} (hk : k.size ≤ maxLen) (ty : TypeId) :
    ∃ w', (Builtin.delete_ #[mapI, 9] ty #[.map (some p), .string k]).run Tryz.prog w = .ok (.tuple #[]) w' ∧ MapI p n (L.filter (fun y => decide (y.n ≠ k))) w' ∧ Kp p w w' ∧ (∀ (q : Addr) (v : Value), w.cell? q = some v → w'.cell? q = some v) := by
  obtain ⟨es, clock, hb, hm, hsz⟩ := h
  have hc : ∀ em, (Instr.checkKey em 10000 9 (.string k)).run Tryz.prog w = .ok () w := fun em => str_law.check w em (keyS_of hk)
  rcases hm.find hs hk w with ⟨hf, ho⟩ | ⟨pre, e, post, he, hek, hf, ho⟩
  · refine ⟨setBlock w p (.map es clock), ?_, ⟨_, _, set_map hb _, ?_, hsz⟩, map_kp _ _ _, map_cells hb _⟩
    · simp [Builtin.delete_, run_underlying Tryz.underlying90, MapKept.run_getObj_map hb, hc, hf, MapKept.run_setObj_map _ hb, Result.andThen, setBlock]
    · rw [hm.keep ho]; exact hm
  · have ee : es = (pre ++ e :: post).toArray := by rw [← he]
    refine ⟨setBlock w p (.map (es.eraseIdxIfInBounds pre.length) clock), ?_, ⟨_, _, set_map hb _, ?_, by rw [ee, erase_at]; rw [ee] at hsz; simp at hsz ⊢; omega⟩, map_kp _ _ _, map_cells hb _⟩
    · simp [Builtin.delete_, run_underlying Tryz.underlying90, MapKept.run_getObj_map hb, hc, hf, MapKept.run_setObj_map _ hb, Result.andThen, setBlock]
    · rw [ee, erase_at]
      rw [he] at hm
      exact hm.gone hek ho
theorem MapI.look {p n : Nat} {L : List Itm} {w : World} (h : MapI p n L w) (hL : Asc Itm.n L) (hs : ∀ x ∈ L, x.n.size ≤ maxLen) {k : ByteArray} (hk : k.size ≤ maxLen) :
    (∃ x ∈ L, x.n = k ∧ (Instr.lookup mapI (.map (some p)) (.string k) true).run Tryz.prog w = .ok (.tuple #[itm x, .bool true]) w) ∨
    ((∀ x ∈ L, x.n ≠ k) ∧ (Instr.lookup mapI (.map (some p)) (.string k) true).run Tryz.prog w = .ok (.tuple #[itm ⟨⟨#[]⟩, ⟨#[]⟩⟩, .bool false]) w) := by
  obtain ⟨es, clock, hb, hm, -⟩ := h
  have hc : ∀ em, (Instr.checkKey em 10000 9 (.string k)).run Tryz.prog w = .ok () w := fun em => str_law.check w em (keyS_of hk)
  have hz : (zeroValue 68).run Tryz.prog w = .ok (itm ⟨⟨#[]⟩, ⟨#[]⟩⟩) w := by rfl
  rcases hm.find hs hk w with ⟨hf, ho⟩ | ⟨pre, e, post, he, hek, hf, ho⟩
  · refine .inr ⟨fun x hx q => ?_, ?_⟩
    · obtain ⟨a, ha, e1, -⟩ := hm.2.2.2 x hx
      exact ho a ha (by rw [e1, q])
    · simp [Instr.lookup, run_underlying Tryz.underlying90, MapKept.run_getObj_map hb, hc, hf, hz, Result.andThen]
  · obtain ⟨-, x, hx, e1, e2⟩ := hm.1 e (by rw [he]; simp)
    rw [hek] at e1
    refine .inl ⟨x, hx, (str_v e1).symm, ?_⟩
    simp [Instr.lookup, run_underlying Tryz.underlying90, MapKept.run_getObj_map hb, hc, hf, e2, Result.andThen]
theorem run_range_w (w : World) (b : Nat) (es : Array MapEntry) (clock : Nat) (hb : w.heap[b]? = some (.map es clock)) :
    (Instr.range mapI (.map (some b))).run Tryz.prog w = .ok (.pointer (some ⟨w.heap.size, 0, none⟩)) (w.alloc (.mapIter (some b) clock #[] clock)) := by
  simp [Instr.range, run_underlying Tryz.underlying90, MapKept.run_getObj_map hb, Result.andThen]
theorem wpList_range_w {ops : Array Oper} {rest : List Oper} {o : Oper} {a : Act} {Q : Exit → Act → World → Prop} (w : World) (hgd : o.guard = none) (m : Operand) (ho : o.op = .range mapI m)
    (b : Nat) (es : Array MapEntry) (clock : Nat) (hm : a.eval m = .map (some b)) (hb : w.heap[b]? = some (.map es clock))
    (hK : wpList Tryz.prog ops Q rest (a.put o.dst (.pointer (some ⟨w.heap.size, 0, none⟩))) (w.alloc (.mapIter (some b) clock #[] clock))) : wpList Tryz.prog ops Q (o :: rest) a w := by
  refine wpList_plain hgd fun K' hK' => ?_
  unfold Oper.wp
  simp [execOp, ho, hm, run_range_w w b es clock hb, Result.andThen]
  exact hK' _ _ hK
theorem wpList_next_w {ops : Array Oper} {rest : List Oper} {o : Oper} {a : Act} {Q : Exit → Act → World → Prop} (w : World) (hgd : o.guard = none) (it : Operand) (ho : o.op = .next it false)
    (r b since c0 : Nat) (seen : Array Nat) (es : Array MapEntry) (clock : Nat) (hit : a.eval it = .pointer (some ⟨r, 0, none⟩))
    (hr : w.heap[r]? = some (.mapIter (some b) since seen c0)) (hb : w.heap[b]? = some (.map es clock)) (hold : ∀ x ∈ es.toList, x.born < since) (hsc : since ≤ c0)
    (hDone : (leftOf es seen).size = 0 → wpList Tryz.prog ops Q rest (a.put o.dst (.tuple #[.bool false])) w)
    (hMore : ∀ e ∈ (leftOf es seen).toList, ∀ w1, (w1 = w ∨ w1 = w.drew) → wpList Tryz.prog ops Q rest (a.put o.dst (.tuple #[.bool true, e.key, e.val])) (setBlock w1 r (.mapIter (some b) since (seen.push e.born) clock))) :
    wpList Tryz.prog ops Q (o :: rest) a w := by
  refine wpList_plain hgd fun K' hK' => ?_
  unfold Oper.wp
  rcases Go.run_next_at (P := Tryz.prog) w o.type r b since c0 seen es clock hr hb hold hsc with ⟨h0, hrun⟩ | ⟨e, he, w1, hw1, hrun⟩
  · simp [execOp, ho, hit, hrun, Result.andThen]
    exact hK' _ _ (hDone h0)
  · simp [execOp, ho, hit, hrun, Result.andThen]
    exact hK' _ _ (hMore e he w1 hw1)
theorem wpList_entry_w {ops : Array Oper} {rest : List Oper} {o : Oper} {a : Act} {Q : Exit → Act → World → Prop} (w : World) (hgd : o.guard = none) (it : Operand) (ho : o.op = .entry it)
    (r b since : Nat) (seen : Array Nat) (es : Array MapEntry) (clock : Nat) (e : MapEntry) (hit : a.eval it = .pointer (some ⟨r, 0, none⟩))
    (hr : w.heap[r]? = some (.mapIter (some b) since (seen.push e.born) clock)) (hb : w.heap[b]? = some (.map es clock)) (he : e ∈ es.toList) (hn : (es.toList.map (·.born)).Nodup)
    (hK : wpList Tryz.prog ops Q rest (a.put o.dst (.tuple #[e.key, e.val])) w) : wpList Tryz.prog ops Q (o :: rest) a w := by
  refine wpList_plain hgd fun K' hK' => ?_
  unfold Oper.wp
  simp [execOp, ho, hit, Go.run_entry_at (P := Tryz.prog) w r b since seen es clock e hr hb he hn, Result.andThen]
  exact hK' _ _ hK
/-- How many entries are left to the iterator of block r. -/
def leftW (w : World) (r : Nat) (es : Array MapEntry) : Nat := match w.heap[r]? with
  | some (.mapIter _ _ seen _) => (leftOf es seen).size
  | _ => 0
theorem leftW_empty {es : Array MapEntry} {seen : Array Nat} (h : (leftOf es seen).size = 0) {e : MapEntry} (he : e ∈ (leftOf es seen).toList) : False := by
  rw [Array.eq_empty_of_size_eq_zero h] at he
  simp at he
theorem iterW_q {a w w5 : World} (q : Q a w) (h : w5 = w ∨ w5 = w.drew) : Q a w5 := by
  rcases h with rfl | rfl
  · exact q
  · exact q.drew
theorem iterW_at {w w5 : World} {r : Nat} {o : Obj} (hr : w.heap[r]? = some o) (h : w5 = w ∨ w5 = w.drew) : w5.heap[r]? = some o := by
  rcases h with rfl | rfl
  · exact hr
  · exact hr
theorem iterW_set {w : World} {r : Nat} {o o' : Obj} (hr : w.heap[r]? = some o) : (setBlock w r o').heap[r]? = some o' := by
  have hlt : r < w.heap.size := lt_of_block hr
  show (w.heap.setIfInBounds r o')[r]? = _
  simp [hlt]
theorem wpList_run_put {w w' : World} {ops : Array Oper} {rest : List Oper} {o : Oper} {a : Act} {Z : Exit → Act → World → Prop} {t : TypeId} {p : Nat} {key val : Value}
    (hrun : (Instr.mapUpdate t (.map (some p)) key val).run Tryz.prog w = .ok () w') (hg : o.guard = none) (x y v : Operand) (hop : o.op = Op.mapUpdate t x y v)
    (hm : a.eval x = .map (some p)) (hy : a.eval y = key) (hv : a.eval v = val) (hK : wpList Tryz.prog ops Z rest (a.put o.dst undef) w') : wpList Tryz.prog ops Z (o :: rest) a w := by
  refine wpList_plain hg fun K' hK' => ?_
  unfold Oper.wp
  simp [execOp, hop, hm, hy, hv, hrun, Result.andThen]
  exact hK' _ _ hK
theorem wpList_run_del {w w' : World} {ops : Array Oper} {rest : List Oper} {o : Oper} {a : Act} {Z : Exit → Act → World → Prop} {t k : TypeId} {p : Nat} {key : Value}
    (hrun : (Builtin.delete_ #[t, k] o.type #[.map (some p), key]).run Tryz.prog w = .ok (.tuple #[]) w') (hg : o.guard = none) (x y : Operand) (hop : o.op = Op.call { callee := Callee.builtin Builtin.delete, args := #[x, y], argTypes := #[t, k] })
    (hm : a.eval x = .map (some p)) (hy : a.eval y = key) (hK : wpList Tryz.prog ops Z rest (a.put o.dst (.tuple #[])) w') : wpList Tryz.prog ops Z (o :: rest) a w := by
  refine wpList_plain hg fun K' hK' => ?_
  unfold Oper.wp
  simp [execOp, hop, resolve, invoke, builtin, hm, hy, hrun, Result.andThen]
  exact hK' _ _ hK
end Go.Proofs.YtbilnomafloopaaGreat
