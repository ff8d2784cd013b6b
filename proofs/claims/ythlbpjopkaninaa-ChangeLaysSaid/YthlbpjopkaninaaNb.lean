/-
  A map of one's own from names to items, as it lies in memory: what is laid in it, deleted, looked up; the range over it. Contracts of the statements' Few of items, and Changes of changes. Contracts of the document's Same of items, and SameChanges. Contract of the document's in: an item, laid in its place. One operation of a held region taken first, with all that it asks shown by itself; several calls that are ready. More plain facts on items: how many, how great; the last one of a name; what is told of changes.
-/
import Derived.Test.YthlbpjopkaninaaNa
import Derived.Maps.OwnIn
import Derived.Maps.OwnSet
import Derived.Maps.RangeRun
import Derived.StringKeys
import Derived.Laws.AppendOwnNone
import Derived.Deep.DeepCutAuto
import Derived.OrdersHeld
import Derived.Deep.RegionHeld
namespace Go.Proofs.Ythlbpjopkaninaa
set_option maxRecDepth 100000
open Go.ChangeShapes Go.WideShapes Go.ChangeAt Go.RowKit
open Go.ChangeMaps (setBlock)
set_option linter.unusedVariables false
set_option linter.unusedSimpArgs false
theorem heap_new (W : World) (o : Obj) : (W.alloc o).heap[W.heap.size]? = some o := by
  show (W.heap.push o)[W.heap.size]? = some o
  exact Array.getElem?_push_size
/-- A map's block holds no cells: they stay where it is written. -/
theorem map_cells {w : World} {b : Nat} {es : Array MapEntry} {clock : Nat} (hb : w.heap[b]? = some (.map es clock)) (o : Obj) : ∀ (q : Addr) (v : Value), w.cell? q = some v → (setBlock w b o).cell? q = some v := by
  intro q v hp
  have hne : q.block ≠ b := by
    intro e
    obtain ⟨B, k, x⟩ := q
    simp only at e
    subst e
    cases x <;> simp [World.cell?, hb] at hp
  have hh : (setBlock w b o).heap[q.block]? = w.heap[q.block]? := by
    show (w.heap.setIfInBounds b o)[q.block]? = _
    rw [Array.getElem?_setIfInBounds, if_neg (fun e => hne e.symm)]
  rw [World.cell?_of_block hh]
  exact hp
theorem map_kp (w : World) (b : Nat) (o : Obj) : Kp b w (setBlock w b o) :=
  ⟨rfl, rfl, rfl, by simp [setBlock], fun k _ hn => by
    show (w.heap.setIfInBounds b o)[k]? = _
    rw [Array.getElem?_setIfInBounds, if_neg (fun e => hn (by rw [e]))]⟩
abbrev mapI : Nat := 98
theorem str_law : WideMaps.KeyLaw Try.prog 9 := WideMaps.string_law Try.underlying9
theorem keyS_of {k : ByteArray} (h : k.size ≤ maxLen) : keyOf Try.prog 9 (.string k) = some (.string k.data.toList) := WideMaps.keyOf_string_mk Try.underlying9 h
theorem str_v {a b : ByteArray} (h : Value.string a = Value.string b) : a = b := by injection h
/-- The entries tell just these items. -/
def MI (es : List MapEntry) (clock : Nat) (L : List Itm) : Prop :=
  (∀ e ∈ es, e.born < clock ∧ ∃ x ∈ L, e.key = .string x.n ∧ e.val = itm x) ∧ (es.map (·.born)).Nodup ∧ es.Pairwise (fun a b => a.key ≠ b.key) ∧ (∀ x ∈ L, ∃ e ∈ es, e.key = .string x.n ∧ e.val = itm x)
theorem MI.nil : MI [] 0 [] := ⟨by simp, by simp, by simp, by simp⟩
theorem parted {α : Type} {l : List α} {j : Nat} {e : α} (h : l[j]? = some e) : l = l.take j ++ e :: l.drop (j + 1) ∧ (l.take j).length = j := by
  obtain ⟨hj, rfl⟩ := List.getElem?_eq_some_iff.1 h
  refine ⟨?_, by simp; omega⟩
  rw [← List.drop_eq_getElem_cons hj, List.take_append_drop]
theorem MI.find {es : List MapEntry} {clock : Nat} {L : List Itm} (h : MI es clock L) (hs : ∀ x ∈ L, x.n.size ≤ maxLen) {k : ByteArray} (hk : k.size ≤ maxLen) (w : World) :
    ((Instr.findKey 9 (.string k) es).run Try.prog w = .ok none w ∧ ∀ e ∈ es, e.key ≠ .string k) ∨
    ∃ pre e post, es = pre ++ e :: post ∧ e.key = .string k ∧ (Instr.findKey 9 (.string k) es).run Try.prog w = .ok (some (pre.length, e.val)) w ∧ (∀ a ∈ pre ++ post, a.key ≠ .string k) := by
  rcases str_law.find w (keyS_of hk) es (fun e he => by obtain ⟨-, x, hx, e1, -⟩ := h.1 e he; rw [e1]; exact ⟨_, keyS_of (hs x hx)⟩) with ⟨a, b⟩ | ⟨j, e, a, b, c⟩
  · exact .inl ⟨a, b⟩
  · obtain ⟨e1, e2⟩ := parted b
    refine .inr ⟨es.take j, e, es.drop (j + 1), e1, c, by rw [e2]; exact a, ?_⟩
    have hp := h.2.2.1
    rw [e1, List.pairwise_append] at hp
    intro x hx
    rcases List.mem_append.1 hx with hx | hx
    · have := hp.2.2 x hx e (by simp); rw [c] at this; exact this
    · have := (List.pairwise_cons.1 hp.2.1).1 x hx; rw [c] at this; exact fun e => this e.symm
theorem MI.new {es : List MapEntry} {clock : Nat} {L : List Itm} (h : MI es clock L) {x : Itm} (hx : ∀ e ∈ es, e.key ≠ .string x.n) : MI (es ++ [⟨.string x.n, itm x, clock⟩]) (clock + 1) (inG Itm.n L x) := by
  obtain ⟨h1, h2, h3, h4⟩ := h
  refine ⟨fun e he => ?_, ?_, ?_, fun y hy => ?_⟩
  · rcases List.mem_append.1 he with he | he
    · obtain ⟨b, y, hy, e1, e2⟩ := h1 e he
      refine ⟨by omega, y, inG_mem.2 (.inr ⟨hy, fun q => hx e he (by rw [e1, q])⟩), e1, e2⟩
    · simp only [List.mem_singleton] at he
      subst he
      exact ⟨Nat.lt_succ_self _, x, inG_mem.2 (.inl rfl), rfl, rfl⟩
  · rw [List.map_append, List.nodup_append]
    refine ⟨h2, by simp, fun a ha b hb => ?_⟩
    obtain ⟨e, he, rfl⟩ := List.mem_map.1 ha
    simp at hb
    have := (h1 e he).1
    omega
  · rw [List.pairwise_append]
    refine ⟨h3, by simp, fun a ha b hb => ?_⟩
    simp only [List.mem_singleton] at hb
    subst hb
    exact hx a ha
  · rcases inG_mem.1 hy with rfl | ⟨hy, hn⟩
    · exact ⟨_, List.mem_append.2 (.inr (List.mem_singleton.2 rfl)), rfl, rfl⟩
    · obtain ⟨e, he, e1, e2⟩ := h4 y hy
      exact ⟨e, List.mem_append.2 (.inl he), e1, e2⟩
theorem MI.over {pre post : List MapEntry} {e : MapEntry} {clock : Nat} {L : List Itm} (h : MI (pre ++ e :: post) clock L) {x : Itm} (he : e.key = .string x.n) (ho : ∀ a ∈ pre ++ post, a.key ≠ .string x.n) :
    MI (pre ++ ⟨.string x.n, itm x, e.born⟩ :: post) clock (inG Itm.n L x) := by
  obtain ⟨h1, h2, h3, h4⟩ := h
  have hin : ∀ a, a ∈ pre ++ post → a ∈ pre ++ e :: post := fun a ha => by
    rcases List.mem_append.1 ha with q | q
    · exact List.mem_append.2 (.inl q)
    · exact List.mem_append.2 (.inr (List.mem_cons_of_mem _ q))
  have hout : ∀ (d : MapEntry) a, a ∈ pre ++ d :: post → a = d ∨ a ∈ pre ++ post := fun d a ha => by
    rcases List.mem_append.1 ha with q | q
    · exact .inr (List.mem_append.2 (.inl q))
    · rcases List.mem_cons.1 q with q | q
      · exact .inl q
      · exact .inr (List.mem_append.2 (.inr q))
  refine ⟨fun a ha => ?_, ?_, ?_, fun y hy => ?_⟩
  · rcases hout _ a ha with rfl | ha
    · exact ⟨(h1 e (by simp)).1, x, inG_mem.2 (.inl rfl), rfl, rfl⟩
    · obtain ⟨b, y, hy, e1, e2⟩ := h1 a (hin a ha)
      exact ⟨b, y, inG_mem.2 (.inr ⟨hy, fun q => ho a ha (by rw [e1, q])⟩), e1, e2⟩
  · simpa using h2
  · rw [List.pairwise_append] at h3 ⊢
    refine ⟨h3.1, List.pairwise_cons.2 ⟨fun a ha q => ho a (List.mem_append.2 (.inr ha)) q.symm, (List.pairwise_cons.1 h3.2.1).2⟩, fun a ha b hb => ?_⟩
    rcases List.mem_cons.1 hb with rfl | hb
    · exact ho a (List.mem_append.2 (.inl ha))
    · exact h3.2.2 a ha b (List.mem_cons_of_mem _ hb)
  · rcases inG_mem.1 hy with rfl | ⟨hy, hn⟩
    · exact ⟨⟨.string y.n, itm y, e.born⟩, by simp, rfl, rfl⟩
    · obtain ⟨a, ha, e1, e2⟩ := h4 y hy
      rcases hout _ a ha with q | q
      · rw [q, he] at e1; exact absurd (str_v e1).symm hn
      · refine ⟨a, ?_, e1, e2⟩
        rcases List.mem_append.1 q with q | q
        · exact List.mem_append.2 (.inl q)
        · exact List.mem_append.2 (.inr (List.mem_cons_of_mem _ q))
theorem MI.gone {pre post : List MapEntry} {e : MapEntry} {clock : Nat} {L : List Itm} (h : MI (pre ++ e :: post) clock L) {k : ByteArray} (he : e.key = .string k) (ho : ∀ a ∈ pre ++ post, a.key ≠ .string k) :
    MI (pre ++ post) clock (L.filter (fun y => decide (y.n ≠ k))) := by
  obtain ⟨h1, h2, h3, h4⟩ := h
  have hsub : (pre ++ post).Sublist (pre ++ e :: post) := (List.Sublist.refl _).append (List.sublist_cons_self _ _)
  refine ⟨fun a ha => ?_, h2.sublist (hsub.map _), h3.sublist hsub, fun y hy => ?_⟩
  · obtain ⟨b, y, hy, e1, e2⟩ := h1 a (hsub.subset ha)
    exact ⟨b, y, List.mem_filter.2 ⟨hy, by simp only [decide_eq_true_eq]; exact fun q => ho a ha (by rw [e1, q])⟩, e1, e2⟩
  · obtain ⟨hy, hn⟩ := List.mem_filter.1 hy
    simp only [decide_eq_true_eq] at hn
    obtain ⟨a, ha, e1, e2⟩ := h4 y hy
    refine ⟨a, ?_, e1, e2⟩
    rcases List.mem_append.1 ha with q | q
    · exact List.mem_append.2 (.inl q)
    · rcases List.mem_cons.1 q with q | q
      · rw [q, he] at e1; exact absurd (str_v e1).symm hn
      · exact List.mem_append.2 (.inr q)
theorem MI.keep {es : List MapEntry} {clock : Nat} {L : List Itm} (h : MI es clock L) {k : ByteArray} (ho : ∀ a ∈ es, a.key ≠ .string k) : L.filter (fun y => decide (y.n ≠ k)) = L := by
  refine List.filter_eq_self.2 fun y hy => ?_
  obtain ⟨a, ha, e1, -⟩ := h.2.2.2 y hy
  simp only [decide_eq_true_eq]
  exact fun q => ho a ha (by rw [e1, q])
theorem modify_at {α : Type} (pre post : List α) (e : α) (f : α → α) : ((pre ++ e :: post).toArray.modify pre.length f) = (pre ++ f e :: post).toArray := by
  apply Array.ext
  · simp
  · intro i h1 h2
    simp only [Array.getElem_modify, List.getElem_toArray]
    by_cases hi : pre.length = i
    · subst hi; simp
    · rw [if_neg hi]
      by_cases hl : i < pre.length
      · rw [List.getElem_append_left hl, List.getElem_append_left hl]
      · rw [List.getElem_append_right (by omega), List.getElem_append_right (by omega)]
        obtain ⟨j, hj⟩ : ∃ j, i - pre.length = j + 1 := ⟨i - pre.length - 1, by omega⟩
        simp only [hj, List.getElem_cons_succ]
theorem erase_at {α : Type} (pre post : List α) (e : α) : ((pre ++ e :: post).toArray.eraseIdxIfInBounds pre.length) = (pre ++ post).toArray := by
  unfold Array.eraseIdxIfInBounds
  rw [dif_pos (by simp)]
  simp [List.eraseIdx_append_of_length_le]
/-- A map of one's own has just these items. -/
def MapI (p n : Nat) (L : List Itm) (w : World) : Prop := ∃ es clock, w.heap[p]? = some (.map es clock) ∧ MI es.toList clock L ∧ es.size ≤ n
theorem MapI.made (w : World) : MapI w.heap.size 0 [] (w.alloc (.map #[] 0)) := ⟨#[], 0, heap_new w _, MI.nil, Nat.le_refl _⟩
theorem MapI.more {p n m : Nat} {L : List Itm} {w : World} (h : MapI p n L w) (k : n ≤ m) : MapI p m L w := by obtain ⟨es, c, hb, hm, hn⟩ := h; exact ⟨es, c, hb, hm, Nat.le_trans hn k⟩
theorem MapI.lt {p n : Nat} {L : List Itm} {w : World} (h : MapI p n L w) : p < w.heap.size := by obtain ⟨es, c, hb, -⟩ := h; exact lt_of_block hb
theorem MapI.on {p n : Nat} {L : List Itm} {w w' : World} (h : MapI p n L w) (q : Q w w') : MapI p n L w' := by
  obtain ⟨es, c, hb, hm⟩ := h; exact ⟨es, c, (q.block p (lt_of_block hb)).trans hb, hm⟩
theorem MapI.kp {p n r : Nat} {L : List Itm} {w w' : World} (h : MapI p n L w) (g : Kp r w w') (hn : p ≠ r) : MapI p n L w' := by
  obtain ⟨es, c, hb, hm⟩ := h; exact ⟨es, c, (g.block p (lt_of_block hb) (by simpa using hn)).trans hb, hm⟩
theorem set_map {w : World} {b : Nat} {es : Array MapEntry} {clock : Nat} (hb : w.heap[b]? = some (.map es clock)) (o : Obj) : (setBlock w b o).heap[b]? = some o := by
  have hlt := lt_of_block hb
  show (w.heap.setIfInBounds b o)[b]? = _
  simp [hlt]
theorem MapI.put {p n : Nat} {L : List Itm} {w : World} (h : MapI p n L w) (hs : ∀ x ∈ L, x.n.size ≤ maxLen) {x : Itm} (hk : x.n.size ≤ maxLen) :
    ∃ w', (Instr.mapUpdate mapI (.map (some p)) (.string x.n) (itm x)).run Try.prog w = .ok () w' ∧ MapI p (n + 1) (inG Itm.n L x) w' ∧ Kp p w w' ∧ (∀ (q : Addr) (v : Value), w.cell? q = some v → w'.cell? q = some v) := by
  obtain ⟨es, clock, hb, hm, hsz⟩ := h
  have hc : ∀ em, (Instr.checkKey em 10000 9 (.string x.n)).run Try.prog w = .ok () w := fun em => str_law.check w em (keyS_of hk)
  rcases hm.find hs hk w with ⟨hf, ho⟩ | ⟨pre, e, post, he, hek, hf, ho⟩
  · refine ⟨setBlock w p (.map (es.push ⟨.string x.n, itm x, clock⟩) (clock + 1)), ?_, ⟨_, _, set_map hb _, ?_, by simp; omega⟩, map_kp _ _ _, map_cells hb _⟩
    · simp [Instr.mapUpdate, run_underlying Try.underlying98, MapKept.run_getObj_map hb, hc, hf, MapKept.run_setObj_map _ hb, Result.andThen, setBlock]
    · rw [Array.toList_push]; exact hm.new ho
  · have ee : es = (pre ++ e :: post).toArray := by rw [← he]
    have hkt : ∀ u : World, (Instr.keyThatStays (.string x.n) (.string x.n)).run Try.prog u = .ok (.string x.n) u := fun u => str_law.stays u (keyS_of hk)
    have hgk : ((es[pre.length]?.map (·.key)).getD (.string x.n)) = .string x.n := by rw [ee]; simp [hek]
    refine ⟨setBlock w p (.map (es.modify pre.length fun e => { e with key := .string x.n, val := itm x }) clock), ?_, ⟨_, _, set_map hb _, ?_, by simp; omega⟩, map_kp _ _ _, map_cells hb _⟩
    · simp [Instr.mapUpdate, run_underlying Try.underlying98, MapKept.run_getObj_map hb, hc, hf, hgk, hkt, MapKept.run_setObj_map _ hb, Result.andThen, setBlock]
    · rw [ee, modify_at]
      rw [he] at hm
      exact hm.over hek ho
theorem MapI.del {p n : Nat} {L : List Itm} {w : World} (h : MapI p n L w) (hs : ∀ x ∈ L, x.n.size ≤ maxLen) {k : ByteArray} (hk : k.size ≤ maxLen) (ty : TypeId) :
    ∃ w', (Builtin.delete_ #[mapI, 9] ty #[.map (some p), .string k]).run Try.prog w = .ok (.tuple #[]) w' ∧ MapI p n (L.filter (fun y => decide (y.n ≠ k))) w' ∧ Kp p w w' ∧ (∀ (q : Addr) (v : Value), w.cell? q = some v → w'.cell? q = some v) := by
  obtain ⟨es, clock, hb, hm, hsz⟩ := h
  have hc : ∀ em, (Instr.checkKey em 10000 9 (.string k)).run Try.prog w = .ok () w := fun em => str_law.check w em (keyS_of hk)
  rcases hm.find hs hk w with ⟨hf, ho⟩ | ⟨pre, e, post, he, hek, hf, ho⟩
  · refine ⟨setBlock w p (.map es clock), ?_, ⟨_, _, set_map hb _, ?_, hsz⟩, map_kp _ _ _, map_cells hb _⟩
    · simp [Builtin.delete_, run_underlying Try.underlying98, MapKept.run_getObj_map hb, hc, hf, MapKept.run_setObj_map _ hb, Result.andThen, setBlock]
    · rw [hm.keep ho]; exact hm
  · have ee : es = (pre ++ e :: post).toArray := by rw [← he]
    refine ⟨setBlock w p (.map (es.eraseIdxIfInBounds pre.length) clock), ?_, ⟨_, _, set_map hb _, ?_, by rw [ee, erase_at]; rw [ee] at hsz; simp at hsz ⊢; omega⟩, map_kp _ _ _, map_cells hb _⟩
    · simp [Builtin.delete_, run_underlying Try.underlying98, MapKept.run_getObj_map hb, hc, hf, MapKept.run_setObj_map _ hb, Result.andThen, setBlock]
    · rw [ee, erase_at]
      rw [he] at hm
      exact hm.gone hek ho
theorem MapI.look {p n : Nat} {L : List Itm} {w : World} (h : MapI p n L w) (hL : Asc Itm.n L) (hs : ∀ x ∈ L, x.n.size ≤ maxLen) {k : ByteArray} (hk : k.size ≤ maxLen) :
    (∃ x ∈ L, x.n = k ∧ (Instr.lookup mapI (.map (some p)) (.string k) true).run Try.prog w = .ok (.tuple #[itm x, .bool true]) w) ∨
    ((∀ x ∈ L, x.n ≠ k) ∧ (Instr.lookup mapI (.map (some p)) (.string k) true).run Try.prog w = .ok (.tuple #[itm ⟨⟨#[]⟩, ⟨#[]⟩⟩, .bool false]) w) := by
  obtain ⟨es, clock, hb, hm, -⟩ := h
  have hc : ∀ em, (Instr.checkKey em 10000 9 (.string k)).run Try.prog w = .ok () w := fun em => str_law.check w em (keyS_of hk)
  have hz : (zeroValue 58).run Try.prog w = .ok (itm ⟨⟨#[]⟩, ⟨#[]⟩⟩) w := by rfl
  rcases hm.find hs hk w with ⟨hf, ho⟩ | ⟨pre, e, post, he, hek, hf, ho⟩
  · refine .inr ⟨fun x hx q => ?_, ?_⟩
    · obtain ⟨a, ha, e1, -⟩ := hm.2.2.2 x hx
      exact ho a ha (by rw [e1, q])
    · simp [Instr.lookup, run_underlying Try.underlying98, MapKept.run_getObj_map hb, hc, hf, hz, Result.andThen]
  · obtain ⟨-, x, hx, e1, e2⟩ := hm.1 e (by rw [he]; simp)
    rw [hek] at e1
    refine .inl ⟨x, hx, (str_v e1).symm, ?_⟩
    simp [Instr.lookup, run_underlying Try.underlying98, MapKept.run_getObj_map hb, hc, hf, e2, Result.andThen]
theorem run_range_w (w : World) (b : Nat) (es : Array MapEntry) (clock : Nat) (hb : w.heap[b]? = some (.map es clock)) :
    (Instr.range mapI (.map (some b))).run Try.prog w = .ok (.pointer (some ⟨w.heap.size, 0, none⟩)) (w.alloc (.mapIter (some b) clock #[] clock)) := by
  simp [Instr.range, run_underlying Try.underlying98, MapKept.run_getObj_map hb, Result.andThen]
theorem wpList_range_w {ops : Array Oper} {rest : List Oper} {o : Oper} {a : Act} {Q : Exit → Act → World → Prop} (w : World) (hgd : o.guard = none) (m : Operand) (ho : o.op = .range mapI m)
    (b : Nat) (es : Array MapEntry) (clock : Nat) (hm : a.eval m = .map (some b)) (hb : w.heap[b]? = some (.map es clock))
    (hK : wpList Try.prog ops Q rest (a.put o.dst (.pointer (some ⟨w.heap.size, 0, none⟩))) (w.alloc (.mapIter (some b) clock #[] clock))) : wpList Try.prog ops Q (o :: rest) a w := by
  refine wpList_plain hgd fun K' hK' => ?_
  unfold Oper.wp
  simp [execOp, ho, hm, run_range_w w b es clock hb, Result.andThen]
  exact hK' _ _ hK
theorem wpList_next_w {ops : Array Oper} {rest : List Oper} {o : Oper} {a : Act} {Q : Exit → Act → World → Prop} (w : World) (hgd : o.guard = none) (it : Operand) (ho : o.op = .next it false)
    (r b since c0 : Nat) (seen : Array Nat) (es : Array MapEntry) (clock : Nat) (hit : a.eval it = .pointer (some ⟨r, 0, none⟩))
    (hr : w.heap[r]? = some (.mapIter (some b) since seen c0)) (hb : w.heap[b]? = some (.map es clock)) (hold : ∀ x ∈ es.toList, x.born < since) (hsc : since ≤ c0)
    (hDone : (leftOf es seen).size = 0 → wpList Try.prog ops Q rest (a.put o.dst (.tuple #[.bool false])) w)
    (hMore : ∀ e ∈ (leftOf es seen).toList, ∀ w1, (w1 = w ∨ w1 = w.drew) → wpList Try.prog ops Q rest (a.put o.dst (.tuple #[.bool true, e.key, e.val])) (setBlock w1 r (.mapIter (some b) since (seen.push e.born) clock))) :
    wpList Try.prog ops Q (o :: rest) a w := by
  refine wpList_plain hgd fun K' hK' => ?_
  unfold Oper.wp
  rcases Go.run_next_at (P := Try.prog) w o.type r b since c0 seen es clock hr hb hold hsc with ⟨h0, hrun⟩ | ⟨e, he, w1, hw1, hrun⟩
  · simp [execOp, ho, hit, hrun, Result.andThen]
    exact hK' _ _ (hDone h0)
  · simp [execOp, ho, hit, hrun, Result.andThen]
    exact hK' _ _ (hMore e he w1 hw1)
theorem wpList_entry_w {ops : Array Oper} {rest : List Oper} {o : Oper} {a : Act} {Q : Exit → Act → World → Prop} (w : World) (hgd : o.guard = none) (it : Operand) (ho : o.op = .entry it)
    (r b since : Nat) (seen : Array Nat) (es : Array MapEntry) (clock : Nat) (e : MapEntry) (hit : a.eval it = .pointer (some ⟨r, 0, none⟩))
    (hr : w.heap[r]? = some (.mapIter (some b) since (seen.push e.born) clock)) (hb : w.heap[b]? = some (.map es clock)) (he : e ∈ es.toList) (hn : (es.toList.map (·.born)).Nodup)
    (hK : wpList Try.prog ops Q rest (a.put o.dst (.tuple #[e.key, e.val])) w) : wpList Try.prog ops Q (o :: rest) a w := by
  refine wpList_plain hgd fun K' hK' => ?_
  unfold Oper.wp
  simp [execOp, ho, hit, Go.run_entry_at (P := Try.prog) w r b since seen es clock e hr hb he hn, Result.andThen]
  exact hK' _ _ hK
/-- How many entries are left to the iterator of block r. -/
def leftW (w : World) (r : Nat) (es : Array MapEntry) : Nat := match w.heap[r]? with
  | some (.mapIter _ _ seen _) => (leftOf es seen).size
  | _ => 0
theorem leftW_empty {es : Array MapEntry} {seen : Array Nat} (h : (leftOf es seen).size = 0) {e : MapEntry} (he : e ∈ (leftOf es seen).toList) : False := by
  rw [Array.eq_empty_of_size_eq_zero h] at he
  simp at he
theorem iterW_q {a w w5 : World} (q : Q a w) (h : w5 = w ∨ w5 = w.drew) : Q a w5 := by
  rcases h with rfl | rfl
  · exact q
  · exact q.drew
theorem iterW_at {w w5 : World} {r : Nat} {o : Obj} (hr : w.heap[r]? = some o) (h : w5 = w ∨ w5 = w.drew) : w5.heap[r]? = some o := by
  rcases h with rfl | rfl
  · exact hr
  · exact hr
theorem iterW_set {w : World} {r : Nat} {o o' : Obj} (hr : w.heap[r]? = some o) : (setBlock w r o').heap[r]? = some o' := by
  have hlt : r < w.heap.size := lt_of_block hr
  show (w.heap.setIfInBounds r o')[r]? = _
  simp [hlt]
theorem wpList_run_put {w w' : World} {ops : Array Oper} {rest : List Oper} {o : Oper} {a : Act} {Z : Exit → Act → World → Prop} {t : TypeId} {p : Nat} {key val : Value}
    (hrun : (Instr.mapUpdate t (.map (some p)) key val).run Try.prog w = .ok () w') (hg : o.guard = none) (x y v : Operand) (hop : o.op = Op.mapUpdate t x y v)
    (hm : a.eval x = .map (some p)) (hy : a.eval y = key) (hv : a.eval v = val) (hK : wpList Try.prog ops Z rest (a.put o.dst undef) w') : wpList Try.prog ops Z (o :: rest) a w := by
  refine wpList_plain hg fun K' hK' => ?_
  unfold Oper.wp
  simp [execOp, hop, hm, hy, hv, hrun, Result.andThen]
  exact hK' _ _ hK
theorem wpList_run_del {w w' : World} {ops : Array Oper} {rest : List Oper} {o : Oper} {a : Act} {Z : Exit → Act → World → Prop} {t k : TypeId} {p : Nat} {key : Value}
    (hrun : (Builtin.delete_ #[t, k] o.type #[.map (some p), key]).run Try.prog w = .ok (.tuple #[]) w') (hg : o.guard = none) (x y : Operand) (hop : o.op = Op.call { callee := Callee.builtin Builtin.delete, args := #[x, y], argTypes := #[t, k] })
    (hm : a.eval x = .map (some p)) (hy : a.eval y = key) (hK : wpList Try.prog ops Z rest (a.put o.dst (.tuple #[])) w') : wpList Try.prog ops Z (o :: rest) a w := by
  refine wpList_plain hg fun K' hK' => ?_
  unfold Oper.wp
  simp [execOp, hop, resolve, invoke, builtin, hm, hy, hrun, Result.andThen]
  exact hK' _ _ hK
end Go.Proofs.Ythlbpjopkaninaa

namespace Go.Proofs.Ythlbpjopkaninaa
set_option maxRecDepth 100000
open Go.ChangeShapes Go.WideShapes Go.ChangeAt Go.RowKit
set_option linter.unusedVariables false
set_option linter.unusedSimpArgs false
def cutT (k : Nat) (s : ByteArray) : ByteArray := if k < s.size then s.extract 0 k else s
theorem cutT_size {k : Nat} (s : ByteArray) (h : k ≤ 1000000) : (cutT k s).size ≤ k := by
  unfold cutT; split
  · rw [size_cut _ (by omega)]; omega
  · omega
def fewIt (x : Itm) : Itm := ⟨cutT 120 x.n, cutT 2100 x.val⟩
def fewIs (l : List Itm) : List Itm := (l.take 60).map fewIt
theorem cells_itm2 (w : World) (o : Obj) (x : Itm) (t : TypeId) : ∀ j u, (icl x)[j]? = some u → ((w.alloc o).alloc (.cells (icl x).toArray t)).cell? ((⟨w.heap.size + 1, 0, none⟩ : Addr).add j) = some u := by
  have h := cells_oneitm (w.alloc o) x t
  rw [World.size_alloc] at h
  exact h
def fewCh (x : Chg) : Chg := ⟨cutT 120 x.n, cutT 2100 x.val, x.gone⟩
def fewCs (l : List Chg) : List Chg := (l.take 60).map fewCh
theorem fewCs_ok {l : List Chg} : ∀ x ∈ fewCs l, x.n.size ≤ 120 ∧ x.val.size ≤ 2100 := by
  intro x hx
  obtain ⟨y, -, rfl⟩ := List.mem_map.1 hx
  exact ⟨cutT_size _ (by omega), cutT_size _ (by omega)⟩
theorem fewCs_len (l : List Chg) : (fewCs l).length ≤ 60 := by rw [fewCs, List.length_map, List.length_take]; omega
theorem fewCs_take (l : List Chg) (i : Nat) (h : i < l.length) : (l.take (i + 1)).map fewCh = (l.take i).map fewCh ++ [fewCh l[i]] := by
  rw [List.take_succ_eq_append_getElem h, List.map_append]; rfl
theorem cells_chg2 (w : World) (o : Obj) (x : Chg) (t : TypeId) : ∀ j u, (hcl x)[j]? = some u → ((w.alloc o).alloc (.cells (hcl x).toArray t)).cell? ((⟨w.heap.size + 1, 0, none⟩ : Addr).add j) = some u := by
  have h := cells_onechg (w.alloc o) x t
  rw [World.size_alloc] at h
  exact h
set_option maxHeartbeats 4000000 in
theorem fewCs_any (l : List Chg) (v : Value) (w : World) (hl : l.length ≤ maxLen) (ht : Chgs w w.heap.size v l) :
    Calls Try.prog 20 #[v] w fun e w' => ∃ v', e = .returned v' ∧ OwnH w.heap.size w' v' (fewCs l) ∧ Q w w' := by
  obtain ⟨A, c, rfl, -, -, hok, hcells⟩ := ht
  unfold maxLen at hl
  have HC := Lib.hid hcells
  have HK := Lib.hid hok
  clear hcells hok
  go_enter Try.func20, Try.ntmps20
  go_wp2_with fail
  go_loopw [3, 4] (fun O I wr => ∃ i : Nat, i ≤ l.length ∧ i ≤ 60 ∧ I = .int .i64 i ∧ OwnH w.heap.size wr O ((l.take i).map fewCh) ∧ Below w.heap.size w wr) (fun _ I _ => 60 - (intOf I).toNat)
  case atStart => exact ⟨0, Nat.zero_le _, by omega, rfl, OwnH.nil _ _, Below.refl _ _⟩
  case round =>
    obtain ⟨i, hil, hi60, rfl, hown, hbel⟩ := hrel
    by_cases hlt : i < l.length
    · by_cases h60 : i < 60
      · obtain ⟨a, rfl, ha, hat⟩ := HC.out i hlt
        obtain ⟨c0, c1, c2⟩ := hat.keep (by rw [add_block]; exact ha) fun _ hp => hbel.cell hp
        clear hat
        have HW := Lib.hid (fewCs_take l i hlt)
        have hx0 := HK.out _ (List.getElem_mem hlt)
        have hlen : ((l.take i).map fewCh).length ≤ 60 := by rw [List.length_map, List.length_take]; omega
        obtain ⟨x, hx⟩ : ∃ x, x = l[i] := ⟨_, rfl⟩
        rw [← hx] at c0 c1 c2 HW hx0
        clear hx
        have hs := hbel.size
        obtain ⟨z0, z1, -⟩ := hx0
        unfold maxLen at z0 z1
        by_cases y0 : 120 < x.n.size
        · have y0' : (120 : Int) < (x.n.size : Int) := by omega
          have E0 : Hid (cutT 120 x.n = x.n.extract 0 120) := Lib.hid (by rw [cutT, if_pos y0])
          by_cases y1 : 2100 < x.val.size
          · have y1' : (2100 : Int) < (x.val.size : Int) := by omega
            have E1 : Hid (cutT 2100 x.val = x.val.extract 0 2100) := Lib.hid (by rw [cutT, if_pos y1])
            have EX : Hid (fewCh x = ⟨(x.n.extract 0 120), (x.val.extract 0 2100), x.gone⟩) := Lib.hid (by rw [fewCh, E0.out, E1.out])
            go_wp2_with (at_builtin; refine wpList_snoc_chg _ rfl _ _ 42 37 Try.underlying42 rfl w.heap.size (wr.heap.size + 1) _ ((l.take i).map fewCh) ⟨(x.n.extract 0 120), (x.val.extract 0 2100), x.gone⟩ rfl rfl (cells_chg2 wr _ ⟨(x.n.extract 0 120), (x.val.extract 0 2100), x.gone⟩ 37) (World.ownsRow.alloc (World.ownsRow.alloc hown _) _) ?hb ?hl ?_; (case hb => simp; omega); (case hl => omega); intro v1 w2 h1 h2; have b1 := OwnH.grown (World.ownsRow.alloc (World.ownsRow.alloc hown _) _) ((hbel.alloc hs _).alloc (by simp; omega) _) (by simp; omega) h2; rw [← EX.out, ← HW.out] at h1; clear h2)
            go_roundw
            case rel => exact ⟨i + 1, by omega, by omega, by go_num, h1, b1⟩
            case measure => simp [intOf]; omega
          · have y1' : ¬ (2100 : Int) < (x.val.size : Int) := by omega
            have E1 : Hid (cutT 2100 x.val = x.val) := Lib.hid (by rw [cutT, if_neg y1])
            have EX : Hid (fewCh x = ⟨(x.n.extract 0 120), x.val, x.gone⟩) := Lib.hid (by rw [fewCh, E0.out, E1.out])
            go_wp2_with (at_builtin; refine wpList_snoc_chg _ rfl _ _ 42 37 Try.underlying42 rfl w.heap.size (wr.heap.size + 1) _ ((l.take i).map fewCh) ⟨(x.n.extract 0 120), x.val, x.gone⟩ rfl rfl (cells_chg2 wr _ ⟨(x.n.extract 0 120), x.val, x.gone⟩ 37) (World.ownsRow.alloc (World.ownsRow.alloc hown _) _) ?hb ?hl ?_; (case hb => simp; omega); (case hl => omega); intro v1 w2 h1 h2; have b1 := OwnH.grown (World.ownsRow.alloc (World.ownsRow.alloc hown _) _) ((hbel.alloc hs _).alloc (by simp; omega) _) (by simp; omega) h2; rw [← EX.out, ← HW.out] at h1; clear h2)
            go_roundw
            case rel => exact ⟨i + 1, by omega, by omega, by go_num, h1, b1⟩
            case measure => simp [intOf]; omega
        · have y0' : ¬ (120 : Int) < (x.n.size : Int) := by omega
          have E0 : Hid (cutT 120 x.n = x.n) := Lib.hid (by rw [cutT, if_neg y0])
          by_cases y1 : 2100 < x.val.size
          · have y1' : (2100 : Int) < (x.val.size : Int) := by omega
            have E1 : Hid (cutT 2100 x.val = x.val.extract 0 2100) := Lib.hid (by rw [cutT, if_pos y1])
            have EX : Hid (fewCh x = ⟨x.n, (x.val.extract 0 2100), x.gone⟩) := Lib.hid (by rw [fewCh, E0.out, E1.out])
            go_wp2_with (at_builtin; refine wpList_snoc_chg _ rfl _ _ 42 37 Try.underlying42 rfl w.heap.size (wr.heap.size + 1) _ ((l.take i).map fewCh) ⟨x.n, (x.val.extract 0 2100), x.gone⟩ rfl rfl (cells_chg2 wr _ ⟨x.n, (x.val.extract 0 2100), x.gone⟩ 37) (World.ownsRow.alloc (World.ownsRow.alloc hown _) _) ?hb ?hl ?_; (case hb => simp; omega); (case hl => omega); intro v1 w2 h1 h2; have b1 := OwnH.grown (World.ownsRow.alloc (World.ownsRow.alloc hown _) _) ((hbel.alloc hs _).alloc (by simp; omega) _) (by simp; omega) h2; rw [← EX.out, ← HW.out] at h1; clear h2)
            go_roundw
            case rel => exact ⟨i + 1, by omega, by omega, by go_num, h1, b1⟩
            case measure => simp [intOf]; omega
          · have y1' : ¬ (2100 : Int) < (x.val.size : Int) := by omega
            have E1 : Hid (cutT 2100 x.val = x.val) := Lib.hid (by rw [cutT, if_neg y1])
            have EX : Hid (fewCh x = ⟨x.n, x.val, x.gone⟩) := Lib.hid (by rw [fewCh, E0.out, E1.out])
            go_wp2_with (at_builtin; refine wpList_snoc_chg _ rfl _ _ 42 37 Try.underlying42 rfl w.heap.size (wr.heap.size + 1) _ ((l.take i).map fewCh) ⟨x.n, x.val, x.gone⟩ rfl rfl (cells_chg2 wr _ ⟨x.n, x.val, x.gone⟩ 37) (World.ownsRow.alloc (World.ownsRow.alloc hown _) _) ?hb ?hl ?_; (case hb => simp; omega); (case hl => omega); intro v1 w2 h1 h2; have b1 := OwnH.grown (World.ownsRow.alloc (World.ownsRow.alloc hown _) _) ((hbel.alloc hs _).alloc (by simp; omega) _) (by simp; omega) h2; rw [← EX.out, ← HW.out] at h1; clear h2)
            go_roundw
            case rel => exact ⟨i + 1, by omega, by omega, by go_num, h1, b1⟩
            case measure => simp [intOf]; omega
      · have HW : Hid (fewCs l = (l.take i).map fewCh) := Lib.hid (by rw [fewCs, show i = 60 by omega])
        have h2 : ¬ (i : Int) < 60 := by omega
        go_wp2
        go_ret
        exact ⟨_, rfl, by rw [HW.out]; exact hown, hbel⟩
    · have HW : Hid (fewCs l = (l.take i).map fewCh) := Lib.hid (by rw [fewCs, List.take_of_length_le (by omega), List.take_of_length_le (by omega)])
      have h2 : ¬ (i : Int) < (l.length : Int) := by omega
      go_wp2
      go_ret
      exact ⟨_, rfl, by rw [HW.out]; exact hown, hbel⟩
end Go.Proofs.Ythlbpjopkaninaa

namespace Go.Proofs.Ythlbpjopkaninaa
set_option maxRecDepth 100000
open Go.ChangeShapes Go.WideShapes Go.ChangeAt Go.RowKit
set_option linter.unusedVariables false
set_option linter.unusedSimpArgs false
instance : DecidableEq Itm := fun x y => if h : x.n = y.n ∧ x.val = y.val then .isTrue (by cases x; cases y; simp only at h; rw [h.1, h.2]) else .isFalse (fun e => h (by rw [e]; exact ⟨rfl, rfl⟩))
instance : DecidableEq Chg := fun x y => if h : x.n = y.n ∧ x.val = y.val ∧ x.gone = y.gone then .isTrue (by cases x; cases y; simp only at h; rw [h.1, h.2.1, h.2.2]) else .isFalse (fun e => h (by rw [e]; exact ⟨rfl, rfl, rfl⟩))
theorem list_neG {α : Type} {a b : List α} {i : Nat} (h : i < a.length) (k : i < b.length) (n : a[i] ≠ b[i]) : a ≠ b := by
  intro e
  subst e
  exact n rfl
theorem isame_ne {x y : Itm} (h : x ≠ y) : (x.n ≠ y.n) ∨ (x.n = y.n ∧ x.val ≠ y.val) := by
  obtain ⟨a, b⟩ := x
  obtain ⟨a', b'⟩ := y
  simp only [ne_eq, Itm.mk.injEq, not_and] at h ⊢
  by_cases h1 : a = a'
  · exact .inr ⟨h1, h h1⟩
  · exact .inl h1
set_option maxHeartbeats 2000000 in
theorem isame_any (a b : List Itm) (va vb : Value) (w : World) (hl : a.length ≤ 100000) (hlb : b.length ≤ 100000) (ha : Itms w w.heap.size va a) (hb : Itms w w.heap.size vb b) :
    Calls Try.prog 23 #[va, vb] w fun e w' => e = .returned (.bool (decide (a = b))) ∧ D w w' := by
  obtain ⟨R, hRe⟩ : ∃ R, R = decide (a = b) := ⟨_, rfl⟩
  rw [← hRe]
  have hR : (R = true ∧ a = b) ∨ (R = false ∧ a ≠ b) := by
    by_cases h : a = b
    · exact .inl ⟨by rw [hRe]; simp [h], h⟩
    · exact .inr ⟨by rw [hRe]; simp [h], h⟩
  clear hRe
  obtain ⟨A, c, rfl, -, -, -, hca⟩ := ha
  obtain ⟨B, c', rfl, -, -, -, hcb⟩ := hb
  have HA := Lib.hid hca
  have HB := Lib.hid hcb
  have HR := Lib.hid hR
  clear hca hcb hR
  by_cases he : a.length = b.length
  · have hen : ((a.length : Int) != (b.length : Int)) = false := by simp [he]
    have HE := Lib.hid he
    clear he
    go_enter Try.func23, Try.ntmps23
    go_wp2_with fail
    go_loopw [5] (fun I wr => ∃ i : Nat, i ≤ a.length ∧ I = .int .i64 i ∧ D w wr ∧ Hid (a.take i = b.take i)) (fun I _ => a.length - (intOf I).toNat)
    case atStart => exact ⟨0, Nat.zero_le _, rfl, D.refl _, Lib.hid (by simp)⟩
    case round =>
      obtain ⟨i, hil, rfl, d, HT⟩ := hrel
      by_cases hlt : i < a.length
      · have hlb2 : i < b.length := by rw [← HE.out]; exact hlt
        obtain ⟨p, rfl, hp, hat⟩ := HA.out i hlt
        obtain ⟨q, rfl, hq, hbt⟩ := HB.out i hlb2
        obtain ⟨m, rfl⟩ := d
        obtain ⟨c0, c1⟩ := hat
        obtain ⟨d0, d1⟩ := hbt
        have h2 : (i : Int) < (b.length : Int) := by omega
        by_cases hxy : a[i] = b[i]
        · have HT2 : Hid (a.take (i + 1) = b.take (i + 1)) := Lib.hid (by rw [List.take_succ_eq_append_getElem hlt, List.take_succ_eq_append_getElem hlb2, HT.out, hxy])
          rw [← hxy] at d0 d1
          obtain ⟨x, hx⟩ : ∃ x, x = a[i] := ⟨_, rfl⟩
          rw [← hx] at c0 c1 d0 d1
          clear hx hxy
          go_wp2_with fail
          go_region
          go_wp2
          go_roundw
          case rel => exact ⟨i + 1, by omega, by go_num, ⟨m + 1, by simp [Nat.add_comm]⟩, HT2⟩
          case measure => simp [intOf]; omega
        · have HV : Hid (R = false) := Lib.hid (by rcases HR.out with ⟨-, h⟩ | ⟨h, -⟩; exact absurd h (list_neG hlt hlb2 hxy); exact h)
          have hne := isame_ne hxy
          obtain ⟨x, hx⟩ : ∃ x, x = a[i] := ⟨_, rfl⟩
          obtain ⟨y, hy⟩ : ∃ y, y = b[i] := ⟨_, rfl⟩
          rw [← hx] at c0 c1 hne
          rw [← hy] at d0 d1 hne
          clear hx hy hxy
          obtain ⟨xn, xv⟩ := x
          obtain ⟨yn, yv⟩ := y
          simp only at c0 c1 d0 d1 hne
          rcases hne with h | ⟨rfl, h⟩
          · have h' : ¬ (xn.toList = yn.toList) := fun e => h (bl_inj (by rw [← toList_bl, ← toList_bl, e]))
            clear h
            go_wp2_with fail
            go_region
            go_wp2
            go_ret
            exact ⟨ret_bool (by rw [HV.out]), (D.drewN ⟨m, rfl⟩ 1)⟩
          · have h' : ¬ (xv.toList = yv.toList) := fun e => h (bl_inj (by rw [← toList_bl, ← toList_bl, e]))
            clear h
            go_wp2_with fail
            go_region
            go_wp2
            go_ret
            exact ⟨ret_bool (by rw [HV.out]), (D.drewN ⟨m, rfl⟩ 1)⟩
      · have HV : Hid (R = true) := Lib.hid (by rcases HR.out with ⟨h, -⟩ | ⟨-, h⟩; exact h; exact absurd (by have := HT.out; rwa [List.take_of_length_le (by omega), List.take_of_length_le (by have := HE.out; omega)] at this) h)
        have h2 : ¬ (i : Int) < (a.length : Int) := by omega
        go_wp2
        go_ret
        exact ⟨ret_bool (by rw [HV.out]), d⟩
  · have HV : Hid (R = false) := Lib.hid (by rcases HR.out with ⟨-, h⟩ | ⟨h, -⟩; exact absurd (congrArg List.length h) he; exact h)
    have hen : ((a.length : Int) != (b.length : Int)) = true := by simp; omega
    clear he
    go_enter Try.func23, Try.ntmps23
    go_wp2
    go_ret
    exact ⟨ret_bool (by rw [HV.out]), D.refl _⟩
end Go.Proofs.Ythlbpjopkaninaa

namespace Go.Proofs.Ythlbpjopkaninaa
set_option maxRecDepth 100000
open Go.ChangeShapes Go.WideShapes Go.ChangeAt Go.RowKit
set_option linter.unusedVariables false
set_option linter.unusedSimpArgs false
@[go_sem] theorem binOp_string_gtrI (t : TypeId) (a b : ByteArray) : binOp .gtr t (.string a) (.string b) = pure (.bool !(Op.bytesLess a.toList b.toList || a.toList == b.toList)) := by simp [binOp, Op.stringOp]
theorem gtr_formZ (a b : ByteArray) : (!(Op.bytesLess a.toList b.toList || a.toList == b.toList)) = ltBZ b a := by rw [less_leqZ]; simp [ltBZ]
theorem filt_takeI {α : Type} (l : List α) (i : Nat) (h : i < l.length) (p : α → Bool) : (p l[i] = true → (l.take (i + 1)).filter p = (l.take i).filter p ++ [l[i]]) ∧ (p l[i] = false → (l.take (i + 1)).filter p = (l.take i).filter p) := by
  rw [List.take_succ_eq_append_getElem h, List.filter_append]
  constructor
  · intro e; rw [List.filter_cons, if_pos e]; rfl
  · intro e; rw [List.filter_cons, if_neg (by simp [e])]; simp
theorem filt_leI {α : Type} (l : List α) (i : Nat) (p : α → Bool) : ((l.take i).filter p).length ≤ l.length := by
  refine Nat.le_trans (List.length_filter_le _ _) ?_
  rw [List.length_take]; omega
theorem cells_itm1 (w : World) (x : Itm) (t : TypeId) : ∀ j u, (icl x)[j]? = some u → (w.alloc (.cells (icl x).toArray t)).cell? ((⟨w.heap.size, 0, none⟩ : Addr).add j) = some u := cells_oneitm w x t
set_option maxHeartbeats 8000000 in
theorem rin_any (l : List Itm) (x : Itm) (v : Value) (w : World) (hl : l.length ≤ 900) (hx : okIZ x) (ht : Itms w w.heap.size v l) :
    Calls Try.prog 46 #[v, itm x] w fun e w' => ∃ v', e = .returned v' ∧ OwnI w.heap.size w' v' (inG Itm.n l x) ∧ Q w w' := by
  obtain ⟨A, c, rfl, -, -, hok, hcells⟩ := ht
  obtain ⟨xn, xv⟩ := x
  obtain ⟨hxn, hxv⟩ := hx
  simp only at hxn hxv
  unfold maxLen at hxn hxv
  have HG : Hid (inG Itm.n l ⟨xn, xv⟩ = l.filter (fun y => ltBZ y.n xn) ++ (⟨xn, xv⟩ :: l.filter (fun y => ltBZ xn y.n))) := Lib.hid rfl
  have HC := Lib.hid hcells
  have HK := Lib.hid hok
  have q0 : Below w.heap.size w (w.alloc (.cells #[.string xn, .string xv] 58)) := (Q.refl w).alloc _
  have b0 : (w.alloc (.cells #[.string xn, .string xv] 58)).cell? ⟨w.heap.size, 0, none⟩ = some (.string xn) := by simp
  have b1 : (w.alloc (.cells #[.string xn, .string xv] 58)).cell? ⟨w.heap.size, 1, none⟩ = some (.string xv) := by simp
  have s0 : (w.alloc (.cells #[.string xn, .string xv] 58)).heap.size = w.heap.size + 1 := World.size_alloc ..
  obtain ⟨W0, hW0⟩ : ∃ z, z = w.alloc (.cells #[.string xn, .string xv] 58) := ⟨_, rfl⟩
  rw [← hW0] at q0 b0 b1 s0
  have HQ0 := Lib.hid q0
  have HB0 := Lib.hid b0
  have HB1 := Lib.hid b1
  have HS0 := Lib.hid s0
  clear hcells hok q0 b0 b1 s0
  rw [itm]
  simp only
  go_enter Try.func46, Try.ntmps46
  go_wp2_with fail
  rw [← hW0]
  clear hW0
  go_loopw [5, 6] (fun O I wr => ∃ i : Nat, i ≤ l.length ∧ I = .int .i64 i ∧ OwnI (w.heap.size + 1) wr O ((l.take i).filter (fun y => ltBZ y.n xn)) ∧ Below (w.heap.size + 1) W0 wr) (fun _ I _ => l.length - (intOf I).toNat)
  case atStart => exact ⟨0, Nat.zero_le _, rfl, OwnI.nil _ _, Below.refl _ _⟩
  case round =>
    obtain ⟨i, hil, rfl, hown, hbel⟩ := hrel
    have hs := hbel.size
    have hs0 := HS0.out
    by_cases hlt : i < l.length
    · obtain ⟨a, rfl, ha, hat⟩ := HC.out i hlt
      have hat2 := hat.keep (by rw [add_block]; exact ha) fun p hp => ((Below.mono hbel (Nat.le_succ _)).cell hp).trans (HQ0.out.cell hp)
      obtain ⟨c0, c1⟩ := hat2
      have e0 := (hbel.cell (p := ⟨w.heap.size, 0, none⟩) (Nat.lt_succ_self _)).trans HB0.out
      clear hat
      have HF := filt_takeI l i hlt (fun y => ltBZ y.n xn)
      have hlen := filt_leI l i (fun y => ltBZ y.n xn)
      have hy0 := HK.out _ (List.getElem_mem hlt)
      obtain ⟨y, hy⟩ : ∃ y, y = l[i] := ⟨_, rfl⟩
      rw [← hy] at c0 c1 HF hy0
      clear hy
      have hilt : (i : Int) < (l.length : Int) := by omega
      cases hb : ltBZ y.n xn with
      | true =>
        have HW := Lib.hid (HF.1 hb)
        clear HF
        have h3 : Op.bytesLess y.n.toList xn.toList = true := hb
        clear hb
        go_wp2_with fail
        go_region
        obtain ⟨wd, hwd⟩ : ∃ z, z = wr.drew := ⟨_, rfl⟩
        rw [← hwd]
        have hown := OwnI.on hown (Q.refl wr).drew
        have hbel := hbel.drew
        have c0 : wr.drew.cell? (a.add (i * 2)) = some (.string y.n) := c0
        have c1 : wr.drew.cell? ⟨(a.add (i * 2)).block, (a.add (i * 2)).off + 1, none⟩ = some (.string y.val) := c1
        rw [← hwd] at hown hbel c0 c1
        have hs := hbel.size
        clear hwd
        go_wp2_with (at_builtin; refine wpList_snoc_itm _ rfl _ _ 45 58 Try.underlying45 rfl (w.heap.size + 1) wd.heap.size _ ((l.take i).filter (fun y => ltBZ y.n xn)) y rfl rfl (cells_itm1 wd y 58) (World.ownsRow.alloc hown _) ?hb ?hl ?_; (case hb => simp; omega); (case hl => omega); intro v1 w2 h1 h2; have b1 := OwnI.grown (World.ownsRow.alloc hown _) (hbel.alloc (by omega) _) (by simp; omega) h2; rw [← HW.out] at h1; clear h2)
        go_roundw
        case rel => exact ⟨i + 1, by omega, by go_num, h1, b1⟩
        case measure => simp [intOf]; omega
      | false =>
        have HW := Lib.hid (HF.2 hb)
        clear HF
        have h3 : Op.bytesLess y.n.toList xn.toList = false := hb
        clear hb
        go_wp2_with fail
        go_region
        go_wp2
        go_roundw
        case rel => exact ⟨i + 1, by omega, by go_num, by rw [HW.out]; exact hown, hbel.drew⟩
        case measure => simp [intOf]; omega
    · have h2 : ¬ (i : Int) < (l.length : Int) := by omega
      rw [List.take_of_length_le (by omega)] at hown
      have e0 := (hbel.cell (p := ⟨w.heap.size, 0, none⟩) (Nat.lt_succ_self _)).trans HB0.out
      have e1 := (hbel.cell (p := ⟨w.heap.size, 1, none⟩) (Nat.lt_succ_self _)).trans HB1.out
      have hlen := List.length_filter_le (fun y : Itm => ltBZ y.n xn) l
      go_wp2_with (at_builtin; refine wpList_snoc_itm _ rfl _ _ 45 58 Try.underlying45 rfl (w.heap.size + 1) wr.heap.size _ (l.filter (fun y => ltBZ y.n xn)) ⟨xn, xv⟩ rfl rfl (cells_itm1 wr ⟨xn, xv⟩ 58) (World.ownsRow.alloc hown _) ?hb ?hl ?_; (case hb => simp; omega); (case hl => omega); intro v1 w2 h1 h2; have b1 := OwnI.grown (World.ownsRow.alloc hown _) (hbel.alloc (by omega) _) (by simp; omega) h2; clear h2)
      clear hown hbel e0 e1 hs
      obtain ⟨PR, hPR⟩ : ∃ z, z = l.filter (fun y => ltBZ y.n xn) ++ [⟨xn, xv⟩] := ⟨_, rfl⟩
      rw [← hPR] at h1
      have HPR : Hid (inG Itm.n l ⟨xn, xv⟩ = PR ++ l.filter (fun y => ltBZ xn y.n)) := Lib.hid (by rw [HG.out, hPR, List.append_assoc]; rfl)
      have hPL : PR.length ≤ 4000 := by rw [hPR]; simp; omega
      clear hPR
      go_wp2_with fail
      go_loopw [5, 7] (fun O I wr => ∃ i : Nat, i ≤ l.length ∧ I = .int .i64 i ∧ OwnI (w.heap.size + 1) wr O (PR ++ (l.take i).filter (fun y => ltBZ xn y.n)) ∧ Below (w.heap.size + 1) W0 wr) (fun _ I _ => l.length - (intOf I).toNat)
      case atStart => exact ⟨0, Nat.zero_le _, rfl, by simpa using h1, b1⟩
      case round =>
        obtain ⟨i, hil, rfl, hown, hbel⟩ := hrel
        have hs := hbel.size
        have hs0 := HS0.out
        by_cases hlt : i < l.length
        · obtain ⟨a, hAa, ha, hat⟩ := HC.out i hlt
          subst hAa
          have hat2 := hat.keep (by rw [add_block]; exact ha) fun p hp => ((Below.mono hbel (Nat.le_succ _)).cell hp).trans (HQ0.out.cell hp)
          obtain ⟨c0, c1⟩ := hat2
          have e0 := (hbel.cell (p := ⟨w.heap.size, 0, none⟩) (Nat.lt_succ_self _)).trans HB0.out
          clear hat
          have HF := filt_takeI l i hlt (fun y => ltBZ xn y.n)
          have hlen := filt_leI l i (fun y => ltBZ xn y.n)
          have hy0 := HK.out _ (List.getElem_mem hlt)
          obtain ⟨y, hy⟩ : ∃ y, y = l[i] := ⟨_, rfl⟩
          rw [← hy] at c0 c1 HF hy0
          clear hy
          have hilt : (i : Int) < (l.length : Int) := by omega
          cases hb : ltBZ xn y.n with
          | true =>
            have HW := Lib.hid (HF.1 hb)
            clear HF
            have hg := (gtr_formZ y.n xn).trans hb
            have h3 : (Op.bytesLess y.n.toList xn.toList || y.n.toList == xn.toList) = false := by simpa using hg
            clear hb hg
            go_wp2_with fail
            go_region
            obtain ⟨wd, hwd⟩ : ∃ z, z = wr.drew := ⟨_, rfl⟩
            rw [← hwd]
            have hown := OwnI.on hown (Q.refl wr).drew
            have hbel := hbel.drew
            have c0 : wr.drew.cell? (a.add (i * 2)) = some (.string y.n) := c0
            have c1 : wr.drew.cell? ⟨(a.add (i * 2)).block, (a.add (i * 2)).off + 1, none⟩ = some (.string y.val) := c1
            rw [← hwd] at hown hbel c0 c1
            have hs := hbel.size
            clear hwd
            go_wp2_with (at_builtin; refine wpList_snoc_itm _ rfl _ _ 45 58 Try.underlying45 rfl (w.heap.size + 1) wd.heap.size _ (PR ++ (l.take i).filter (fun y => ltBZ xn y.n)) y rfl rfl (cells_itm1 wd y 58) (World.ownsRow.alloc hown _) ?hb ?hl ?_; (case hb => simp; omega); (case hl => rw [List.length_append]; omega); intro v1 w2 h1 h2; have b1 := OwnI.grown (World.ownsRow.alloc hown _) (hbel.alloc (by omega) _) (by simp; omega) h2; rw [List.append_assoc, ← HW.out] at h1; clear h2)
            go_roundw
            case rel => exact ⟨i + 1, by omega, by go_num, h1, b1⟩
            case measure => simp [intOf]; omega
          | false =>
            have HW := Lib.hid (HF.2 hb)
            clear HF
            have hg := (gtr_formZ y.n xn).trans hb
            have h3 : (Op.bytesLess y.n.toList xn.toList || y.n.toList == xn.toList) = true := by revert hg; cases (Op.bytesLess y.n.toList xn.toList || y.n.toList == xn.toList) <;> simp
            clear hb hg
            go_wp2_with fail
            go_region
            go_wp2
            go_roundw
            case rel => exact ⟨i + 1, by omega, by go_num, by rw [HW.out]; exact hown, hbel.drew⟩
            case measure => simp [intOf]; omega
        · have h2 : ¬ (i : Int) < (l.length : Int) := by omega
          rw [List.take_of_length_le (by omega)] at hown
          go_wp2
          go_ret
          exact ⟨_, rfl, by rw [HPR.out]; exact OwnI.low hown (Nat.le_succ _), Below.trans HQ0.out (Below.mono hbel (Nat.le_succ _))⟩
end Go.Proofs.Ythlbpjopkaninaa

namespace Go.Proofs.Ythlbpjopkaninaa
set_option maxRecDepth 100000
open Go.ChangeShapes Go.WideShapes Go.ChangeAt Go.RowKit
set_option linter.unusedVariables false
set_option linter.unusedSimpArgs false
theorem tkV {P : Program} {ops : Array Oper} {Q : Exit → Act → World → Prop} {md : Region.Mode} {S : World → Prop} {G : Prop} (i : Nat) {v : Value} {oi : Oper} {fuel : Nat} {listed : Array Bool} {a : Act} {w : World} (h : G) (hi : ops[i]? = some oi := by rfl)
    (hs : Region.noSelect ops = true := by kernel_rfl) (hf : Region.free md ops listed i = true := by kernel_rfl) (hr : (Region.ready md ops listed).contains i = true := by kernel_rfl) (hw : Region.wanted oi (yielded ops a.tmps) = true := by rfl) (hS : S w := by assumption) (hv : ∀ x, S x → (execOp a.eval oi).run P x = .ok (.value v) x := by (intro wx hSw; (try dsimp only at hSw); go_simp; (try with_reducible rfl))) (hQ : ∀ c a w, Q (.panic c) (a.put oi.dst v) w → Q (.panic c) a w := by exact fun _ _ _ h => h) (hg : wpAnyH P md ops Q S fuel (listed.setIfInBounds i true) (a.put oi.dst v) w = G := by ((try simp only [Act.put, PS]); rfl)) : wpAnyH P md ops Q S (fuel + 1) listed a w :=
  wpAnyH_take hi hs hf hr hQ (Or.inl ⟨hw, hv⟩) hS (Eq.mpr hg h)
theorem tkB {P : Program} {ops : Array Oper} {Q : Exit → Act → World → Prop} {md : Region.Mode} {S : World → Prop} {G : Prop} (i : Nat) (v : Value) {oi : Oper} {fuel : Nat} {listed : Array Bool} {a : Act} {w : World} (h : G) (hi : ops[i]? = some oi := by rfl)
    (hs : Region.noSelect ops = true := by kernel_rfl) (hf : Region.free md ops listed i = true := by kernel_rfl) (hr : (Region.ready md ops listed).contains i = true := by kernel_rfl) (hw : Region.wanted oi (yielded ops a.tmps) = true := by rfl) (hS : S w := by assumption) (hv : ∀ x, S x → (execOp a.eval oi).run P x = .ok (.value v) x := by (intro wx hSw; (try dsimp only at hSw); go_simp; (try omega); (try simp [*]); (try omega))) (hQ : ∀ c a w, Q (.panic c) (a.put oi.dst v) w → Q (.panic c) a w := by exact fun _ _ _ h => h) (hg : wpAnyH P md ops Q S fuel (listed.setIfInBounds i true) (a.put oi.dst v) w = G := by ((try simp only [Act.put, PS]); rfl)) : wpAnyH P md ops Q S (fuel + 1) listed a w :=
  wpAnyH_take hi hs hf hr hQ (Or.inl ⟨hw, hv⟩) hS (Eq.mpr hg h)
theorem tkU {P : Program} {ops : Array Oper} {Q : Exit → Act → World → Prop} {md : Region.Mode} {S : World → Prop} {G : Prop} (i : Nat) {oi : Oper} {fuel : Nat} {listed : Array Bool} {a : Act} {w : World} (h : G) (hi : ops[i]? = some oi := by rfl)
    (hs : Region.noSelect ops = true := by kernel_rfl) (hf : Region.free md ops listed i = true := by kernel_rfl) (hr : (Region.ready md ops listed).contains i = true := by kernel_rfl) (hw : Region.wanted oi (yielded ops a.tmps) = false := by rfl) (hS : S w := by assumption) (hQ : ∀ c a w, Q (.panic c) (a.put oi.dst undef) w → Q (.panic c) a w := by exact fun _ _ _ h => h) (hg : wpAnyH P md ops Q S fuel (listed.setIfInBounds i true) (a.put oi.dst undef) w = G := by ((try simp only [Act.put, PS]); rfl)) : wpAnyH P md ops Q S (fuel + 1) listed a w :=
  wpAnyH_take hi hs hf hr hQ (Or.inr ⟨hw, rfl⟩) hS (Eq.mpr hg h)
theorem aR {P : Program} {ops : Array Oper} {Q : Exit → Act → World → Prop} {md : Region.Mode} {S : World → Prop} {fuel : Nat} {listed : Array Bool} {a : Act} {w : World} (rs : List Nat) (h : AllReadyH P md ops Q S fuel listed a w rs) (hr : Region.ready md ops listed = rs := by kernel_rfl) (hne : rs ≠ [] := by simp) : wpAnyH P md ops Q S (fuel + 1) listed a w := wpAnyH_ready hr hne h
theorem pg {A G : Prop} (h : G) (hg : A = G := by ((try simp only [Act.put, PS]); rfl)) : A := Eq.mpr hg h
end Go.Proofs.Ythlbpjopkaninaa

namespace Go.Proofs.Ythlbpjopkaninaa
set_option maxRecDepth 100000
set_option linter.unusedVariables false
set_option linter.unusedSimpArgs false
theorem filt_two {α : Type} (p q : α → Bool) (h : ∀ x, p x = true → q x = false) (l : List α) : (l.filter p).length + (l.filter q).length ≤ l.length := by
  induction l with
  | nil => simp
  | cons x r ih =>
    simp only [List.filter_cons]
    have hx := h x
    split <;> split <;> simp_all <;> omega
theorem inG_len {α : Type} (f : α → ByteArray) (l : List α) (x : α) : (inG f l x).length ≤ l.length + 1 := by
  unfold inG
  rw [List.length_append, List.length_cons]
  have := filt_two (fun y => ltBZ (f y) (f x)) (fun y => ltBZ (f x) (f y)) (fun y h => ltB_asymmZ h) l
  omega
theorem foldI_len (l : List Itm) (o : List Itm) : (l.foldl (inG Itm.n) o).length ≤ o.length + l.length := by
  induction l generalizing o with
  | nil => simp
  | cons x r ih =>
    have h1 := ih (inG Itm.n o x)
    have h2 := inG_len Itm.n o x
    rw [List.foldl_cons, List.length_cons]; omega
theorem ofI_len (l : List Itm) : (ofI l).length ≤ l.length := by have := foldI_len l []; simpa [ofI] using this
theorem foldI_sub {l o : List Itm} {x : Itm} (h : x ∈ l.foldl (inG Itm.n) o) : x ∈ o ∨ x ∈ l := by
  induction l generalizing o with
  | nil => exact .inl h
  | cons y r ih =>
    rcases ih h with h | h
    · rcases inG_mem.1 h with rfl | ⟨h, -⟩
      · exact .inr (by simp)
      · exact .inl h
    · exact .inr (List.mem_cons_of_mem _ h)
theorem ofI_sub {l : List Itm} {x : Itm} (h : x ∈ ofI l) : x ∈ l := by
  rcases foldI_sub h with h | h
  · cases h
  · exact h
theorem ofI_take (l : List Itm) (i : Nat) (h : i < l.length) : ofI (l.take (i + 1)) = inG Itm.n (ofI (l.take i)) l[i] := by
  unfold ofI
  rw [List.take_succ_eq_append_getElem h, List.foldl_append]; rfl
theorem foldC_len (c : List Chg) (o : List Itm) : (c.foldl stepC o).length ≤ o.length + c.length := by
  induction c generalizing o with
  | nil => simp
  | cons x r ih =>
    have h1 := ih (stepC o x)
    have h2 : (stepC o x).length ≤ o.length + 1 := by
      unfold stepC
      have := inG_len Itm.n o ⟨x.n, x.val⟩
      split
      · exact Nat.le_trans (List.length_filter_le _ _) this
      · exact this
    rw [List.foldl_cons, List.length_cons]; omega
theorem withI_take (l : List Itm) (c : List Chg) (i : Nat) (h : i < c.length) : (c.take (i + 1)).foldl stepC (ofI l) = stepC ((c.take i).foldl stepC (ofI l)) c[i] := by
  rw [List.take_succ_eq_append_getElem h, List.foldl_append]; rfl
/-- What holds of all names and values that come in holds of all that there are. -/
theorem stepC_all {p : ByteArray → ByteArray → Prop} {o : List Itm} {c : Chg} (h : ∀ x ∈ o, p x.n x.val) (hc : p c.n c.val) : ∀ x ∈ stepC o c, p x.n x.val := by
  intro x hx
  have hin : x ∈ inG Itm.n o ⟨c.n, c.val⟩ := by
    unfold stepC at hx
    split at hx
    · exact (List.mem_filter.1 hx).1
    · exact hx
  rcases inG_mem.1 hin with rfl | ⟨k, -⟩
  · exact hc
  · exact h x k
theorem foldC_all {p : ByteArray → ByteArray → Prop} {c : List Chg} {o : List Itm} (h : ∀ x ∈ o, p x.n x.val) (hc : ∀ x ∈ c, p x.n x.val) : ∀ x ∈ c.foldl stepC o, p x.n x.val := by
  induction c generalizing o with
  | nil => exact h
  | cons y r ih => exact ih (stepC_all h (hc y (by simp))) (fun x hx => hc x (List.mem_cons_of_mem _ hx))
/-- The last item of a name, and whether there is one. -/
def LastI (l : List Itm) (k : ByteArray) (s : ByteArray) (b : Bool) : Prop :=
  (b = true ∧ ∃ i, ∃ h : i < l.length, l[i] = ⟨k, s⟩ ∧ ∀ j (h : j < l.length), i < j → l[j].n ≠ k) ∨ (b = false ∧ s = ⟨#[]⟩ ∧ ∀ x ∈ l, x.n ≠ k)
theorem snoc_ind {α : Type} {P : List α → Prop} (h0 : P []) (h1 : ∀ l x, P l → P (l ++ [x])) (l : List α) : P l := by
  have key : ∀ r : List α, P r.reverse := fun r => by
    induction r with
    | nil => exact h0
    | cons x r ih => rw [List.reverse_cons]; exact h1 _ _ ih
  have h := key l.reverse
  rwa [List.reverse_reverse] at h
/-- These are the changes from one to another, rising. -/
def DiffIs (a b : List Itm) (c : List Chg) : Prop := Asc Chg.n c ∧ ∀ x, x ∈ c ↔ DiffC a b x
theorem DiffIs.same {a b : List Itm} {c d : List Chg} (h : DiffIs a b c) (k : DiffIs a b d) : c = d := Asc.same h.1 k.1 fun x => (h.2 x).trans (k.2 x).symm
end Go.Proofs.Ythlbpjopkaninaa

