/-
  A map of one's own from names to notes, as it lies in memory: what is laid in it, looked up; the range over it. Contract of the statements' Few of notes. Contract of the document's Counts. Contract of the document's Diff. Contracts of the program's gathered; of cmp.Compare at texts, and of the sorts' closures. What is gathered of a map's entries, in whatever order they come; what a sort makes of it. What a range over a map of notes gathers. The sorts of the library, laid: the table of numbers, and each body held against the library's own.
-/
import Derived.Test.YthlbpjopkaninaaNb
import Derived.Test.YthlbpjopkaninaaNc
import Derived.Deep.DeepCutAuto
import Derived.Test.YthlbpjopkaninaaRows
import Derived.Shelf.SlSortCmp.NoneTotal
namespace Go.Proofs.Ythlbpjopkaninaa
set_option maxRecDepth 100000
open Go.ChangeMaps (setBlock)
open Go.ChangeShapes Go.WideShapes Go.ChangeAt Go.RowKit
set_option linter.unusedVariables false
set_option linter.unusedSimpArgs false
set_option maxRecDepth 100000
abbrev mapN : Nat := 72
/-- The entries tell just these items. -/
def MN (es : List MapEntry) (clock : Nat) (L : List Nte) : Prop :=
  (∀ e ∈ es, e.born < clock ∧ ∃ x ∈ L, e.key = .string x.n ∧ e.val = nte x) ∧ (es.map (·.born)).Nodup ∧ es.Pairwise (fun a b => a.key ≠ b.key) ∧ (∀ x ∈ L, ∃ e ∈ es, e.key = .string x.n ∧ e.val = nte x)
theorem MN.nil : MN [] 0 [] := ⟨by simp, by simp, by simp, by simp⟩
theorem MN.find {es : List MapEntry} {clock : Nat} {L : List Nte} (h : MN es clock L) (hs : ∀ x ∈ L, x.n.size ≤ maxLen) {k : ByteArray} (hk : k.size ≤ maxLen) (w : World) :
    ((Instr.findKey 9 (.string k) es).run Try.prog w = .ok none w ∧ ∀ e ∈ es, e.key ≠ .string k) ∨
    ∃ pre e post, es = pre ++ e :: post ∧ e.key = .string k ∧ (Instr.findKey 9 (.string k) es).run Try.prog w = .ok (some (pre.length, e.val)) w ∧ (∀ a ∈ pre ++ post, a.key ≠ .string k) := by
  rcases str_law.find w (keyS_of hk) es (fun e he => by obtain ⟨-, x, hx, e1, -⟩ := h.1 e he; rw [e1]; exact ⟨_, keyS_of (hs x hx)⟩) with ⟨a, b⟩ | ⟨j, e, a, b, c⟩
  · exact .inl ⟨a, b⟩
  · obtain ⟨e1, e2⟩ := parted b
    refine .inr ⟨es.take j, e, es.drop (j + 1), e1, c, by rw [e2]; exact a, ?_⟩
    have hp := h.2.2.1
    rw [e1, List.pairwise_append] at hp
    intro x hx
    rcases List.mem_append.1 hx with hx | hx
    · have := hp.2.2 x hx e (by simp); rw [c] at this; exact this
    · have := (List.pairwise_cons.1 hp.2.1).1 x hx; rw [c] at this; exact fun e => this e.symm
theorem MN.new {es : List MapEntry} {clock : Nat} {L : List Nte} (h : MN es clock L) {x : Nte} (hx : ∀ e ∈ es, e.key ≠ .string x.n) : MN (es ++ [⟨.string x.n, nte x, clock⟩]) (clock + 1) (inG Nte.n L x) := by
  obtain ⟨h1, h2, h3, h4⟩ := h
  refine ⟨fun e he => ?_, ?_, ?_, fun y hy => ?_⟩
  · rcases List.mem_append.1 he with he | he
    · obtain ⟨b, y, hy, e1, e2⟩ := h1 e he
      refine ⟨by omega, y, inG_mem.2 (.inr ⟨hy, fun q => hx e he (by rw [e1, q])⟩), e1, e2⟩
    · simp only [List.mem_singleton] at he
      subst he
      exact ⟨Nat.lt_succ_self _, x, inG_mem.2 (.inl rfl), rfl, rfl⟩
  · rw [List.map_append, List.nodup_append]
    refine ⟨h2, by simp, fun a ha b hb => ?_⟩
    obtain ⟨e, he, rfl⟩ := List.mem_map.1 ha
    simp at hb
    have := (h1 e he).1
    omega
  · rw [List.pairwise_append]
    refine ⟨h3, by simp, fun a ha b hb => ?_⟩
    simp only [List.mem_singleton] at hb
    subst hb
    exact hx a ha
  · rcases inG_mem.1 hy with rfl | ⟨hy, hn⟩
    · exact ⟨_, List.mem_append.2 (.inr (List.mem_singleton.2 rfl)), rfl, rfl⟩
    · obtain ⟨e, he, e1, e2⟩ := h4 y hy
      exact ⟨e, List.mem_append.2 (.inl he), e1, e2⟩
theorem MN.over {pre post : List MapEntry} {e : MapEntry} {clock : Nat} {L : List Nte} (h : MN (pre ++ e :: post) clock L) {x : Nte} (he : e.key = .string x.n) (ho : ∀ a ∈ pre ++ post, a.key ≠ .string x.n) :
    MN (pre ++ ⟨.string x.n, nte x, e.born⟩ :: post) clock (inG Nte.n L x) := by
  obtain ⟨h1, h2, h3, h4⟩ := h
  have hin : ∀ a, a ∈ pre ++ post → a ∈ pre ++ e :: post := fun a ha => by
    rcases List.mem_append.1 ha with q | q
    · exact List.mem_append.2 (.inl q)
    · exact List.mem_append.2 (.inr (List.mem_cons_of_mem _ q))
  have hout : ∀ (d : MapEntry) a, a ∈ pre ++ d :: post → a = d ∨ a ∈ pre ++ post := fun d a ha => by
    rcases List.mem_append.1 ha with q | q
    · exact .inr (List.mem_append.2 (.inl q))
    · rcases List.mem_cons.1 q with q | q
      · exact .inl q
      · exact .inr (List.mem_append.2 (.inr q))
  refine ⟨fun a ha => ?_, ?_, ?_, fun y hy => ?_⟩
  · rcases hout _ a ha with rfl | ha
    · exact ⟨(h1 e (by simp)).1, x, inG_mem.2 (.inl rfl), rfl, rfl⟩
    · obtain ⟨b, y, hy, e1, e2⟩ := h1 a (hin a ha)
      exact ⟨b, y, inG_mem.2 (.inr ⟨hy, fun q => ho a ha (by rw [e1, q])⟩), e1, e2⟩
  · simpa using h2
  · rw [List.pairwise_append] at h3 ⊢
    refine ⟨h3.1, List.pairwise_cons.2 ⟨fun a ha q => ho a (List.mem_append.2 (.inr ha)) q.symm, (List.pairwise_cons.1 h3.2.1).2⟩, fun a ha b hb => ?_⟩
    rcases List.mem_cons.1 hb with rfl | hb
    · exact ho a (List.mem_append.2 (.inl ha))
    · exact h3.2.2 a ha b (List.mem_cons_of_mem _ hb)
  · rcases inG_mem.1 hy with rfl | ⟨hy, hn⟩
    · exact ⟨⟨.string y.n, nte y, e.born⟩, by simp, rfl, rfl⟩
    · obtain ⟨a, ha, e1, e2⟩ := h4 y hy
      rcases hout _ a ha with q | q
      · rw [q, he] at e1; exact absurd (str_v e1).symm hn
      · refine ⟨a, ?_, e1, e2⟩
        rcases List.mem_append.1 q with q | q
        · exact List.mem_append.2 (.inl q)
        · exact List.mem_append.2 (.inr (List.mem_cons_of_mem _ q))
theorem MN.gone {pre post : List MapEntry} {e : MapEntry} {clock : Nat} {L : List Nte} (h : MN (pre ++ e :: post) clock L) {k : ByteArray} (he : e.key = .string k) (ho : ∀ a ∈ pre ++ post, a.key ≠ .string k) :
    MN (pre ++ post) clock (L.filter (fun y => decide (y.n ≠ k))) := by
  obtain ⟨h1, h2, h3, h4⟩ := h
  have hsub : (pre ++ post).Sublist (pre ++ e :: post) := (List.Sublist.refl _).append (List.sublist_cons_self _ _)
  refine ⟨fun a ha => ?_, h2.sublist (hsub.map _), h3.sublist hsub, fun y hy => ?_⟩
  · obtain ⟨b, y, hy, e1, e2⟩ := h1 a (hsub.subset ha)
    exact ⟨b, y, List.mem_filter.2 ⟨hy, by simp only [decide_eq_true_eq]; exact fun q => ho a ha (by rw [e1, q])⟩, e1, e2⟩
  · obtain ⟨hy, hn⟩ := List.mem_filter.1 hy
    simp only [decide_eq_true_eq] at hn
    obtain ⟨a, ha, e1, e2⟩ := h4 y hy
    refine ⟨a, ?_, e1, e2⟩
    rcases List.mem_append.1 ha with q | q
    · exact List.mem_append.2 (.inl q)
    · rcases List.mem_cons.1 q with q | q
      · rw [q, he] at e1; exact absurd (str_v e1).symm hn
      · exact List.mem_append.2 (.inr q)
theorem MN.keep {es : List MapEntry} {clock : Nat} {L : List Nte} (h : MN es clock L) {k : ByteArray} (ho : ∀ a ∈ es, a.key ≠ .string k) : L.filter (fun y => decide (y.n ≠ k)) = L := by
  refine List.filter_eq_self.2 fun y hy => ?_
  obtain ⟨a, ha, e1, -⟩ := h.2.2.2 y hy
  simp only [decide_eq_true_eq]
  exact fun q => ho a ha (by rw [e1, q])
/-- A map of one's own has just these items. -/
def MapN (p n : Nat) (L : List Nte) (w : World) : Prop := ∃ es clock, w.heap[p]? = some (.map es clock) ∧ MN es.toList clock L ∧ es.size ≤ n
theorem MapN.made (w : World) : MapN w.heap.size 0 [] (w.alloc (.map #[] 0)) := ⟨#[], 0, heap_new w _, MN.nil, Nat.le_refl _⟩
theorem MapN.more {p n m : Nat} {L : List Nte} {w : World} (h : MapN p n L w) (k : n ≤ m) : MapN p m L w := by obtain ⟨es, c, hb, hm, hn⟩ := h; exact ⟨es, c, hb, hm, Nat.le_trans hn k⟩
theorem MapN.lt {p n : Nat} {L : List Nte} {w : World} (h : MapN p n L w) : p < w.heap.size := by obtain ⟨es, c, hb, -⟩ := h; exact lt_of_block hb
theorem MapN.on {p n : Nat} {L : List Nte} {w w' : World} (h : MapN p n L w) (q : Q w w') : MapN p n L w' := by
  obtain ⟨es, c, hb, hm⟩ := h; exact ⟨es, c, (q.block p (lt_of_block hb)).trans hb, hm⟩
theorem MapN.kp {p n r : Nat} {L : List Nte} {w w' : World} (h : MapN p n L w) (g : Kp r w w') (hn : p ≠ r) : MapN p n L w' := by
  obtain ⟨es, c, hb, hm⟩ := h; exact ⟨es, c, (g.block p (lt_of_block hb) (by simpa using hn)).trans hb, hm⟩
theorem MapN.put {p n : Nat} {L : List Nte} {w : World} (h : MapN p n L w) (hs : ∀ x ∈ L, x.n.size ≤ maxLen) {x : Nte} (hk : x.n.size ≤ maxLen) :
    ∃ w', (Instr.mapUpdate mapN (.map (some p)) (.string x.n) (nte x)).run Try.prog w = .ok () w' ∧ MapN p (n + 1) (inG Nte.n L x) w' ∧ Kp p w w' ∧ (∀ (q : Addr) (v : Value), w.cell? q = some v → w'.cell? q = some v) := by
  obtain ⟨es, clock, hb, hm, hsz⟩ := h
  have hc : ∀ em, (Instr.checkKey em 10000 9 (.string x.n)).run Try.prog w = .ok () w := fun em => str_law.check w em (keyS_of hk)
  rcases hm.find hs hk w with ⟨hf, ho⟩ | ⟨pre, e, post, he, hek, hf, ho⟩
  · refine ⟨setBlock w p (.map (es.push ⟨.string x.n, nte x, clock⟩) (clock + 1)), ?_, ⟨_, _, set_map hb _, ?_, by simp; omega⟩, map_kp _ _ _, map_cells hb _⟩
    · simp [Instr.mapUpdate, run_underlying Try.underlying72, MapKept.run_getObj_map hb, hc, hf, MapKept.run_setObj_map _ hb, Result.andThen, setBlock]
    · rw [Array.toList_push]; exact hm.new ho
  · have ee : es = (pre ++ e :: post).toArray := by rw [← he]
    have hkt : ∀ u : World, (Instr.keyThatStays (.string x.n) (.string x.n)).run Try.prog u = .ok (.string x.n) u := fun u => str_law.stays u (keyS_of hk)
    have hgk : ((es[pre.length]?.map (·.key)).getD (.string x.n)) = .string x.n := by rw [ee]; simp [hek]
    refine ⟨setBlock w p (.map (es.modify pre.length fun e => { e with key := .string x.n, val := nte x }) clock), ?_, ⟨_, _, set_map hb _, ?_, by simp; omega⟩, map_kp _ _ _, map_cells hb _⟩
    · simp [Instr.mapUpdate, run_underlying Try.underlying72, MapKept.run_getObj_map hb, hc, hf, hgk, hkt, MapKept.run_setObj_map _ hb, Result.andThen, setBlock]
    · rw [ee, modify_at]
      rw [he] at hm
      exact hm.over hek ho
theorem MapN.look {p n : Nat} {L : List Nte} {w : World} (h : MapN p n L w) (hL : Asc Nte.n L) (hs : ∀ x ∈ L, x.n.size ≤ maxLen) {k : ByteArray} (hk : k.size ≤ maxLen) :
    (∃ x ∈ L, x.n = k ∧ (Instr.lookup mapN (.map (some p)) (.string k) true).run Try.prog w = .ok (.tuple #[nte x, .bool true]) w) ∨
    ((∀ x ∈ L, x.n ≠ k) ∧ (Instr.lookup mapN (.map (some p)) (.string k) true).run Try.prog w = .ok (.tuple #[nte ⟨0, ⟨#[]⟩, ⟨#[]⟩, false⟩, .bool false]) w) := by
  obtain ⟨es, clock, hb, hm, -⟩ := h
  have hc : ∀ em, (Instr.checkKey em 10000 9 (.string k)).run Try.prog w = .ok () w := fun em => str_law.check w em (keyS_of hk)
  have hz : (zeroValue 39).run Try.prog w = .ok (nte ⟨0, ⟨#[]⟩, ⟨#[]⟩, false⟩) w := by rfl
  rcases hm.find hs hk w with ⟨hf, ho⟩ | ⟨pre, e, post, he, hek, hf, ho⟩
  · refine .inr ⟨fun x hx q => ?_, ?_⟩
    · obtain ⟨a, ha, e1, -⟩ := hm.2.2.2 x hx
      exact ho a ha (by rw [e1, q])
    · simp [Instr.lookup, run_underlying Try.underlying72, MapKept.run_getObj_map hb, hc, hf, hz, Result.andThen]
  · obtain ⟨-, x, hx, e1, e2⟩ := hm.1 e (by rw [he]; simp)
    rw [hek] at e1
    refine .inl ⟨x, hx, (str_v e1).symm, ?_⟩
    simp [Instr.lookup, run_underlying Try.underlying72, MapKept.run_getObj_map hb, hc, hf, e2, Result.andThen]
theorem run_range_n (w : World) (b : Nat) (es : Array MapEntry) (clock : Nat) (hb : w.heap[b]? = some (.map es clock)) :
    (Instr.range mapN (.map (some b))).run Try.prog w = .ok (.pointer (some ⟨w.heap.size, 0, none⟩)) (w.alloc (.mapIter (some b) clock #[] clock)) := by
  simp [Instr.range, run_underlying Try.underlying72, MapKept.run_getObj_map hb, Result.andThen]
theorem wpList_range_n {ops : Array Oper} {rest : List Oper} {o : Oper} {a : Act} {Q : Exit → Act → World → Prop} (w : World) (hgd : o.guard = none) (m : Operand) (ho : o.op = .range mapN m)
    (b : Nat) (es : Array MapEntry) (clock : Nat) (hm : a.eval m = .map (some b)) (hb : w.heap[b]? = some (.map es clock))
    (hK : wpList Try.prog ops Q rest (a.put o.dst (.pointer (some ⟨w.heap.size, 0, none⟩))) (w.alloc (.mapIter (some b) clock #[] clock))) : wpList Try.prog ops Q (o :: rest) a w := by
  refine wpList_plain hgd fun K' hK' => ?_
  unfold Oper.wp
  simp [execOp, ho, hm, run_range_n w b es clock hb, Result.andThen]
  exact hK' _ _ hK
end Go.Proofs.Ythlbpjopkaninaa

namespace Go.Proofs.Ythlbpjopkaninaa
set_option maxRecDepth 100000
open Go.ChangeShapes Go.WideShapes Go.ChangeAt Go.RowKit
set_option linter.unusedVariables false
set_option linter.unusedSimpArgs false
def fewNt (x : Nte) : Nte := ⟨x.st, cutT 201 x.n, cutT 4001 x.val, x.gone⟩
def fewNs (l : List Nte) : List Nte := (l.take 101).map fewNt
theorem fewNs_ok {l : List Nte} : ∀ x ∈ fewNs l, x.n.size ≤ 201 ∧ x.val.size ≤ 4001 := by
  intro x hx
  obtain ⟨y, -, rfl⟩ := List.mem_map.1 hx
  exact ⟨cutT_size _ (by omega), cutT_size _ (by omega)⟩
theorem fewNs_len (l : List Nte) : (fewNs l).length ≤ 101 := by rw [fewNs, List.length_map, List.length_take]; omega
theorem fewNs_take (l : List Nte) (i : Nat) (h : i < l.length) : (l.take (i + 1)).map fewNt = (l.take i).map fewNt ++ [fewNt l[i]] := by
  rw [List.take_succ_eq_append_getElem h, List.map_append]; rfl
theorem cells_nte2 (w : World) (o : Obj) (x : Nte) (t : TypeId) : ∀ j u, (ncl x)[j]? = some u → ((w.alloc o).alloc (.cells (ncl x).toArray t)).cell? ((⟨w.heap.size + 1, 0, none⟩ : Addr).add j) = some u := by
  have h := cells_onente (w.alloc o) x t
  rw [World.size_alloc] at h
  exact h
set_option maxHeartbeats 4000000 in
theorem fewNs_any (l : List Nte) (v : Value) (w : World) (hl : l.length ≤ maxLen) (ht : Ntes w w.heap.size v l) :
    Calls Try.prog 11 #[v] w fun e w' => ∃ v', e = .returned v' ∧ OwnW w.heap.size w' v' (fewNs l) ∧ Q w w' := by
  obtain ⟨A, c, rfl, -, -, hok, hcells⟩ := ht
  unfold maxLen at hl
  have HC := Lib.hid hcells
  have HK := Lib.hid hok
  clear hcells hok
  go_enter Try.func11, Try.ntmps11
  go_wp2_with fail
  go_loopw [3, 4] (fun O I wr => ∃ i : Nat, i ≤ l.length ∧ i ≤ 101 ∧ I = .int .i64 i ∧ OwnW w.heap.size wr O ((l.take i).map fewNt) ∧ Below w.heap.size w wr) (fun _ I _ => 101 - (intOf I).toNat)
  case atStart => exact ⟨0, Nat.zero_le _, by omega, rfl, OwnW.nil _ _, Below.refl _ _⟩
  case round =>
    obtain ⟨i, hil, hi101, rfl, hown, hbel⟩ := hrel
    by_cases hlt : i < l.length
    · by_cases h101 : i < 101
      · obtain ⟨a, rfl, ha, hat⟩ := HC.out i hlt
        obtain ⟨c0, c1, c2, c3⟩ := hat.keep (by rw [add_block]; exact ha) fun _ hp => hbel.cell hp
        clear hat
        have HW := Lib.hid (fewNs_take l i hlt)
        have hx0 := HK.out _ (List.getElem_mem hlt)
        have hlen : ((l.take i).map fewNt).length ≤ 101 := by rw [List.length_map, List.length_take]; omega
        obtain ⟨x, hx⟩ : ∃ x, x = l[i] := ⟨_, rfl⟩
        rw [← hx] at c0 c1 c2 c3 HW hx0
        clear hx
        have hs := hbel.size
        obtain ⟨zz, z0, z1, -⟩ := hx0
        unfold maxLen at z0 z1
        by_cases y0 : 201 < x.n.size
        · have y0' : (201 : Int) < (x.n.size : Int) := by omega
          have E0 : Hid (cutT 201 x.n = x.n.extract 0 201) := Lib.hid (by rw [cutT, if_pos y0])
          by_cases y1 : 4001 < x.val.size
          · have y1' : (4001 : Int) < (x.val.size : Int) := by omega
            have E1 : Hid (cutT 4001 x.val = x.val.extract 0 4001) := Lib.hid (by rw [cutT, if_pos y1])
            have EX : Hid (fewNt x = ⟨x.st, (x.n.extract 0 201), (x.val.extract 0 4001), x.gone⟩) := Lib.hid (by rw [fewNt, E0.out, E1.out])
            go_wp2_with (at_builtin; refine wpList_snoc_nte _ rfl _ _ 22 39 Try.underlying22 rfl w.heap.size (wr.heap.size + 1) _ ((l.take i).map fewNt) ⟨x.st, (x.n.extract 0 201), (x.val.extract 0 4001), x.gone⟩ rfl rfl (cells_nte2 wr _ ⟨x.st, (x.n.extract 0 201), (x.val.extract 0 4001), x.gone⟩ 39) (World.ownsRow.alloc (World.ownsRow.alloc hown _) _) ?hb ?hl ?_; (case hb => simp; omega); (case hl => omega); intro v1 w2 h1 h2; have b1 := OwnW.grown (World.ownsRow.alloc (World.ownsRow.alloc hown _) _) ((hbel.alloc hs _).alloc (by simp; omega) _) (by simp; omega) h2; rw [← EX.out, ← HW.out] at h1; clear h2)
            go_roundw
            case rel => exact ⟨i + 1, by omega, by omega, by go_num, h1, b1⟩
            case measure => simp [intOf]; omega
          · have y1' : ¬ (4001 : Int) < (x.val.size : Int) := by omega
            have E1 : Hid (cutT 4001 x.val = x.val) := Lib.hid (by rw [cutT, if_neg y1])
            have EX : Hid (fewNt x = ⟨x.st, (x.n.extract 0 201), x.val, x.gone⟩) := Lib.hid (by rw [fewNt, E0.out, E1.out])
            go_wp2_with (at_builtin; refine wpList_snoc_nte _ rfl _ _ 22 39 Try.underlying22 rfl w.heap.size (wr.heap.size + 1) _ ((l.take i).map fewNt) ⟨x.st, (x.n.extract 0 201), x.val, x.gone⟩ rfl rfl (cells_nte2 wr _ ⟨x.st, (x.n.extract 0 201), x.val, x.gone⟩ 39) (World.ownsRow.alloc (World.ownsRow.alloc hown _) _) ?hb ?hl ?_; (case hb => simp; omega); (case hl => omega); intro v1 w2 h1 h2; have b1 := OwnW.grown (World.ownsRow.alloc (World.ownsRow.alloc hown _) _) ((hbel.alloc hs _).alloc (by simp; omega) _) (by simp; omega) h2; rw [← EX.out, ← HW.out] at h1; clear h2)
            go_roundw
            case rel => exact ⟨i + 1, by omega, by omega, by go_num, h1, b1⟩
            case measure => simp [intOf]; omega
        · have y0' : ¬ (201 : Int) < (x.n.size : Int) := by omega
          have E0 : Hid (cutT 201 x.n = x.n) := Lib.hid (by rw [cutT, if_neg y0])
          by_cases y1 : 4001 < x.val.size
          · have y1' : (4001 : Int) < (x.val.size : Int) := by omega
            have E1 : Hid (cutT 4001 x.val = x.val.extract 0 4001) := Lib.hid (by rw [cutT, if_pos y1])
            have EX : Hid (fewNt x = ⟨x.st, x.n, (x.val.extract 0 4001), x.gone⟩) := Lib.hid (by rw [fewNt, E0.out, E1.out])
            go_wp2_with (at_builtin; refine wpList_snoc_nte _ rfl _ _ 22 39 Try.underlying22 rfl w.heap.size (wr.heap.size + 1) _ ((l.take i).map fewNt) ⟨x.st, x.n, (x.val.extract 0 4001), x.gone⟩ rfl rfl (cells_nte2 wr _ ⟨x.st, x.n, (x.val.extract 0 4001), x.gone⟩ 39) (World.ownsRow.alloc (World.ownsRow.alloc hown _) _) ?hb ?hl ?_; (case hb => simp; omega); (case hl => omega); intro v1 w2 h1 h2; have b1 := OwnW.grown (World.ownsRow.alloc (World.ownsRow.alloc hown _) _) ((hbel.alloc hs _).alloc (by simp; omega) _) (by simp; omega) h2; rw [← EX.out, ← HW.out] at h1; clear h2)
            go_roundw
            case rel => exact ⟨i + 1, by omega, by omega, by go_num, h1, b1⟩
            case measure => simp [intOf]; omega
          · have y1' : ¬ (4001 : Int) < (x.val.size : Int) := by omega
            have E1 : Hid (cutT 4001 x.val = x.val) := Lib.hid (by rw [cutT, if_neg y1])
            have EX : Hid (fewNt x = ⟨x.st, x.n, x.val, x.gone⟩) := Lib.hid (by rw [fewNt, E0.out, E1.out])
            go_wp2_with (at_builtin; refine wpList_snoc_nte _ rfl _ _ 22 39 Try.underlying22 rfl w.heap.size (wr.heap.size + 1) _ ((l.take i).map fewNt) ⟨x.st, x.n, x.val, x.gone⟩ rfl rfl (cells_nte2 wr _ ⟨x.st, x.n, x.val, x.gone⟩ 39) (World.ownsRow.alloc (World.ownsRow.alloc hown _) _) ?hb ?hl ?_; (case hb => simp; omega); (case hl => omega); intro v1 w2 h1 h2; have b1 := OwnW.grown (World.ownsRow.alloc (World.ownsRow.alloc hown _) _) ((hbel.alloc hs _).alloc (by simp; omega) _) (by simp; omega) h2; rw [← EX.out, ← HW.out] at h1; clear h2)
            go_roundw
            case rel => exact ⟨i + 1, by omega, by omega, by go_num, h1, b1⟩
            case measure => simp [intOf]; omega
      · have HW : Hid (fewNs l = (l.take i).map fewNt) := Lib.hid (by rw [fewNs, show i = 101 by omega])
        have h2 : ¬ (i : Int) < 101 := by omega
        go_wp2
        go_ret
        exact ⟨_, rfl, by rw [HW.out]; exact hown, hbel⟩
    · have HW : Hid (fewNs l = (l.take i).map fewNt) := Lib.hid (by rw [fewNs, List.take_of_length_le (by omega), List.take_of_length_le (by omega)])
      have h2 : ¬ (i : Int) < (l.length : Int) := by omega
      go_wp2
      go_ret
      exact ⟨_, rfl, by rw [HW.out]; exact hown, hbel⟩
end Go.Proofs.Ythlbpjopkaninaa

namespace Go.Proofs.Ythlbpjopkaninaa
set_option maxRecDepth 100000
open Go.ChangeShapes Go.WideShapes Go.ChangeAt Go.RowKit
set_option linter.unusedVariables false
set_option linter.unusedSimpArgs false
set_option maxRecDepth 100000
def zN : Nte := ⟨0, ⟨#[]⟩, ⟨#[]⟩, false⟩
/-- The note of a name that counts, as it is told. -/
def BestI (l : List Nte) (k : ByteArray) (z : Nte) (f : Bool) : Prop := (f = true ∧ best l k = some z) ∨ (f = false ∧ best l k = none ∧ z = zN)
theorem bestI_ex (l : List Nte) (k : ByteArray) : ∃ z f, BestI l k z f := by
  cases h : best l k with
  | none => exact ⟨zN, false, .inr ⟨rfl, h, rfl⟩⟩
  | some z => exact ⟨z, true, .inl ⟨rfl, h⟩⟩
theorem BestI.same {l : List Nte} {k : ByteArray} {z z' : Nte} {f f' : Bool} (h : BestI l k z f) (g : BestI l k z' f') : z = z' ∧ f = f' := by
  rcases h with ⟨rfl, h⟩ | ⟨rfl, h, rfl⟩ <;> rcases g with ⟨rfl, g⟩ | ⟨rfl, g, rfl⟩
  · rw [h] at g; injection g with g; exact ⟨g, rfl⟩
  · rw [h] at g; cases g
  · rw [h] at g; cases g
  · exact ⟨rfl, rfl⟩
set_option maxHeartbeats 16000000 in
theorem counts_any (l : List Nte) (k : ByteArray) (v : Value) (w : World) (z0 : Nte) (f0 : Bool) (hz : BestI l k z0 f0) (hl : l.length ≤ 100000) (ht : Ntes w w.heap.size v l) :
    Calls Try.prog 44 #[v, .string k] w fun e w' => e = .returned (.tuple #[.agg #[.int .u64 (z0.st : Nat), .string z0.n, .string z0.val, .bool z0.gone], .bool f0]) ∧ Q w w' := by
  obtain ⟨A, c, rfl, -, -, hok, hcells⟩ := ht
  have HC := Lib.hid hcells
  have HZ := Lib.hid hz
  clear hcells hok hz
  obtain ⟨w1, hw1⟩ : ∃ x, x = w.alloc (.cells #[.int .u64 0, .string ⟨#[]⟩, .string ⟨#[]⟩, .bool false] 39) := ⟨_, rfl⟩
  have q1 : Q w w1 := by rw [hw1]; exact (Q.refl w).alloc _
  have HS1 : w1.heap.size = w.heap.size + 1 := by rw [hw1]; simp
  obtain ⟨w2, hw2⟩ : ∃ x, x = w1.alloc (.cells #[.int .u64 0, .string ⟨#[]⟩, .string ⟨#[]⟩, .bool false] 39) := ⟨_, rfl⟩
  have R1 : Bx w1 w.heap.size 39 #[.int .u64 0, .string ⟨#[]⟩, .string ⟨#[]⟩, .bool false] := by rw [hw1]; exact Bx.new w _ _
  have X0 : Bx w2 (w.heap.size + 1) 39 #[.int .u64 0, .string ⟨#[]⟩, .string ⟨#[]⟩, .bool false] := by have := Bx.new w1 39 #[.int .u64 0, .string ⟨#[]⟩, .string ⟨#[]⟩, .bool false]; rw [HS1] at this; rw [hw2]; exact this
  have q2 : Q w1 w2 := by rw [hw2]; exact (Q.refl w1).alloc _
  have HW2 : Hid ((w.alloc (.cells #[.int .u64 0, .string ⟨#[]⟩, .string ⟨#[]⟩, .bool false] 39)).alloc (.cells #[.int .u64 0, .string ⟨#[]⟩, .string ⟨#[]⟩, .bool false] 39) = w2) := Lib.hid (by rw [hw2, hw1])
  have HR1 := Lib.hid R1
  have HX0 := Lib.hid X0
  have HQ1 := Lib.hid q1
  have HQ2 := Lib.hid q2
  have HSZ := Lib.hid HS1
  clear hw1 hw2 q1 q2 R1 X0 HS1
  go_enter Try.func44, Try.ntmps44
  go_upto_region 2 with fail
  rw [HW2.out]
  go_wp2_with fail
  go_loopw [7, 8] (fun F I wr => ∃ (i : Nat) (z : Nte) (f : Bool), i ≤ l.length ∧ I = .int .i64 i ∧ F = .bool f ∧ Bx wr (w.heap.size + 1) 39 #[.int .u64 (z.st : Nat), .string z.n, .string z.val, .bool z.gone] ∧ Q w1 wr ∧ Hid (BestI (l.take i) k z f)) (fun _ I _ => l.length - (intOf I).toNat)
  case atStart => exact ⟨0, zN, false, Nat.zero_le _, rfl, rfl, HX0.out, HQ2.out, Lib.hid (.inr ⟨rfl, rfl, rfl⟩)⟩
  case round =>
    obtain ⟨i, z, f, hil, rfl, rfl, bx, q, HB⟩ := hrel
    by_cases hlt : i < l.length
    · obtain ⟨a, hAa, ha, hat⟩ := HC.out i hlt
      subst hAa
      obtain ⟨c0, c1, c2, c3⟩ := hat.keep (by rw [add_block]; exact ha) fun p hp => (HQ1.out.trans q).cell hp
      have HW := Lib.hid (best_take l i hlt k)
      obtain ⟨y, hy⟩ : ∃ y, y = l[i] := ⟨_, rfl⟩
      rw [← hy] at c0 c1 c2 c3 HW
      clear hy
      have hilt : (i : Int) < (l.length : Int) := by omega
      have b0 := bx.cell 0
      have b1 := bx.cell 1
      have b2 := bx.cell 2
      have b3 := bx.cell 3
      have f0' := bx.frozen 0
      have f1' := bx.frozen 1
      have f2' := bx.frozen 2
      have f3' := bx.frozen 3
      simp only [List.getElem?_toArray, List.getElem?_cons_zero, List.getElem?_cons_succ] at b0 b1 b2 b3
      have qd := q.drew
      have bxd := bx.on ((Q.refl wr).drew)
      clear hat
      by_cases hk : y.n = k
      · have hke : (y.n.toList == k.toList) = true := by rw [hk]; simp
        cases f with
        | false =>
          have HN : Hid (BestI (l.take (i + 1)) k y true) := Lib.hid (by
            rcases HB.out with ⟨h, -⟩ | ⟨-, h, -⟩
            · cases h
            · exact .inl ⟨rfl, by rw [HW.out, h, bestF_none hk]⟩)
          clear HB HW hk
          go_wp2_with fail
          refine wp_region_held_drew (S := (fun W => W.cell? (a.add (i * 4)) = some (.int .u64 (y.st : Nat)) ∧ W.cell? ⟨(a.add (i * 4)).block, (a.add (i * 4)).off + 1, none⟩ = some (.string y.n) ∧ W.cell? ⟨w.heap.size + 1, 0, none⟩ = some (.int .u64 (z.st : Nat)))) (by kernel_rfl) ⟨c0, c1, b0⟩ (fun hHeld => ?_)
          refine tkV 0 ?_
          refine tkV 1 ?_
          refine tkV 2 ?_
          refine tkV 3 ?_
          refine tkV 4 ?_
          refine tkV 5 ?_
          refine tkV 6 ?_
          refine tkB 7 (.bool true) ?_
          refine tkB 8 (.bool true) ?_
          refine tkV 9 ?_
          refine tkV 10 ?_
          refine tkV 11 ?_
          refine tkU 12 ?_
          refine tkU 13 ?_
          refine tkU 14 ?_
          refine tkU 15 ?_
          refine tkU 16 ?_
          refine tkU 17 ?_
          refine tkU 18 ?_
          refine tkU 19 ?_
          refine tkV 20 ?_
          refine tkV 21 ?_
          refine wpAnyH_done (by kernel_rfl) ?_ _
          go_wp2_with fail
          have bxE := ((((bx.set 0 (.int .u64 (y.st : Nat))).set 1 (.string y.n)).set 2 (.string y.val)).set 3 (.bool y.gone)).on ((Q.refl _).drew)
          have qE := (Q.set (k := 3) (Q.set (k := 2) (Q.set (k := 1) (Q.set (k := 0) q (Nat.le_of_eq HSZ.out) (.int .u64 (y.st : Nat))) (Nat.le_of_eq HSZ.out) (.string y.n)) (Nat.le_of_eq HSZ.out) (.string y.val)) (Nat.le_of_eq HSZ.out) (.bool y.gone)).drew
          go_roundw
          case rel => exact ⟨i + 1, y, true, by omega, by go_num, rfl, bxE, qE, HN⟩
          case measure => simp [intOf]; omega
        | true =>
          by_cases g : z.st ≤ y.st
          · have g' : (z.st : Int) ≤ (y.st : Int) := by omega
            have gd : decide ((z.st : Int) ≤ (y.st : Int)) = true := decide_eq_true g'
            have HN : Hid (BestI (l.take (i + 1)) k y true) := Lib.hid (by
              rcases HB.out with ⟨-, h⟩ | ⟨h, -⟩
              · exact .inl ⟨rfl, by rw [HW.out, h, bestF_more hk g]⟩
              · cases h)
            clear HB HW hk g
            go_wp2_with fail
            refine wp_region_held_drew (S := (fun W => W.cell? (a.add (i * 4)) = some (.int .u64 (y.st : Nat)) ∧ W.cell? ⟨(a.add (i * 4)).block, (a.add (i * 4)).off + 1, none⟩ = some (.string y.n) ∧ W.cell? ⟨w.heap.size + 1, 0, none⟩ = some (.int .u64 (z.st : Nat)))) (by kernel_rfl) ⟨c0, c1, b0⟩ (fun hHeld => ?_)
            refine tkV 0 ?_
            refine tkV 1 ?_
            refine tkV 2 ?_
            refine tkV 3 ?_
            refine tkV 4 ?_
            refine tkV 5 ?_
            refine tkV 6 ?_
            refine tkB 7 (.bool true) ?_
            refine tkB 8 (.bool true) ?_
            refine tkV 9 ?_
            refine tkB 10 (.bool false) ?_
            refine tkB 11 (.bool false) ?_
            refine tkV 12 ?_
            refine tkV 13 ?_
            refine tkV 14 ?_
            refine tkV 15 ?_
            refine tkV 16 ?_
            refine tkV 17 ?_
            refine tkV 18 ?_
            refine tkB 19 (.bool true) ?_
            refine tkV 20 ?_
            refine tkV 21 ?_
            refine wpAnyH_done (by kernel_rfl) ?_ _
            go_wp2_with fail
            have bxE := ((((bx.set 0 (.int .u64 (y.st : Nat))).set 1 (.string y.n)).set 2 (.string y.val)).set 3 (.bool y.gone)).on ((Q.refl _).drew)
            have qE := (Q.set (k := 3) (Q.set (k := 2) (Q.set (k := 1) (Q.set (k := 0) q (Nat.le_of_eq HSZ.out) (.int .u64 (y.st : Nat))) (Nat.le_of_eq HSZ.out) (.string y.n)) (Nat.le_of_eq HSZ.out) (.string y.val)) (Nat.le_of_eq HSZ.out) (.bool y.gone)).drew
            go_roundw
            case rel => exact ⟨i + 1, y, true, by omega, by go_num, rfl, bxE, qE, HN⟩
            case measure => simp [intOf]; omega
          · have g' : ¬ (z.st : Int) ≤ (y.st : Int) := by omega
            have gd : decide ((z.st : Int) ≤ (y.st : Int)) = false := decide_eq_false g'
            have HN : Hid (BestI (l.take (i + 1)) k z true) := Lib.hid (by
              rcases HB.out with ⟨-, h⟩ | ⟨h, -⟩
              · exact .inl ⟨rfl, by rw [HW.out, h, bestF_less g]⟩
              · cases h)
            clear HB HW hk g
            go_wp2_with fail
            refine wp_region_held_drew (S := (fun W => W.cell? (a.add (i * 4)) = some (.int .u64 (y.st : Nat)) ∧ W.cell? ⟨(a.add (i * 4)).block, (a.add (i * 4)).off + 1, none⟩ = some (.string y.n) ∧ W.cell? ⟨w.heap.size + 1, 0, none⟩ = some (.int .u64 (z.st : Nat)))) (by kernel_rfl) ⟨c0, c1, b0⟩ (fun hHeld => ?_)
            refine tkV 0 ?_
            refine tkV 1 ?_
            refine tkV 2 ?_
            refine tkV 3 ?_
            refine tkV 4 ?_
            refine tkV 5 ?_
            refine tkV 6 ?_
            refine tkB 7 (.bool true) ?_
            refine tkB 8 (.bool true) ?_
            refine tkV 9 ?_
            refine tkB 10 (.bool false) ?_
            refine tkB 11 (.bool false) ?_
            refine tkV 12 ?_
            refine tkV 13 ?_
            refine tkV 14 ?_
            refine tkV 15 ?_
            refine tkV 16 ?_
            refine tkV 17 ?_
            refine tkV 18 ?_
            refine tkB 19 (.bool false) ?_
            refine tkV 20 ?_
            refine tkV 21 ?_
            refine wpAnyH_done (by kernel_rfl) ?_ _
            go_wp2_with fail
            go_roundw
            case rel => exact ⟨i + 1, z, true, by omega, by go_num, rfl, bxd, qd, HN⟩
            case measure => simp [intOf]; omega
      · have hke : (y.n.toList == k.toList) = false := by rw [eq_texts]; simpa using hk
        have HN : Hid (BestI (l.take (i + 1)) k z f) := Lib.hid (by
          rcases HB.out with ⟨h1, h⟩ | ⟨h1, h, h2⟩
          · exact .inl ⟨h1, by rw [HW.out, bestF_other hk]; exact h⟩
          · exact .inr ⟨h1, by rw [HW.out, bestF_other hk]; exact h, h2⟩)
        clear HB HW hk
        go_wp2_with fail
        refine wp_region_held_drew (S := (fun W => W.cell? (a.add (i * 4)) = some (.int .u64 (y.st : Nat)) ∧ W.cell? ⟨(a.add (i * 4)).block, (a.add (i * 4)).off + 1, none⟩ = some (.string y.n) ∧ W.cell? ⟨w.heap.size + 1, 0, none⟩ = some (.int .u64 (z.st : Nat)))) (by kernel_rfl) ⟨c0, c1, b0⟩ (fun hHeld => ?_)
        refine tkV 0 ?_
        refine tkV 1 ?_
        refine tkV 2 ?_
        refine tkV 3 ?_
        refine tkV 4 ?_
        refine tkV 5 ?_
        refine tkV 6 ?_
        refine tkB 7 (.bool false) ?_
        refine tkB 8 (.bool false) ?_
        refine tkU 9 ?_
        refine tkU 10 ?_
        refine tkU 11 ?_
        refine tkU 12 ?_
        refine tkU 13 ?_
        refine tkU 14 ?_
        refine tkU 15 ?_
        refine tkU 16 ?_
        refine tkU 17 ?_
        refine tkU 18 ?_
        refine tkU 19 ?_
        refine tkU 20 ?_
        refine tkV 21 ?_
        refine wpAnyH_done (by kernel_rfl) ?_ _
        go_wp2_with fail
        go_roundw
        case rel => exact ⟨i + 1, z, f, by omega, by go_num, rfl, bxd, qd, HN⟩
        case measure => simp [intOf]; omega
    · have h2 : ¬ (i : Int) < (l.length : Int) := by omega
      have HB2 := HB.out
      rw [List.take_of_length_le (by omega)] at HB2
      obtain ⟨rfl, rfl⟩ := HB2.same HZ.out
      clear HB2 HB
      have b0 := bx.cell 0
      have b1 := bx.cell 1
      have b2 := bx.cell 2
      have b3 := bx.cell 3
      have rr := HR1.out.on q
      have f0' := rr.frozen 0
      have f1' := rr.frozen 1
      have f2' := rr.frozen 2
      have f3' := rr.frozen 3
      have s0 := rr.cell 0
      have s1 := rr.cell 1
      have s2 := rr.cell 2
      have s3 := rr.cell 3
      simp only [List.getElem?_toArray, List.getElem?_cons_zero, List.getElem?_cons_succ] at b0 b1 b2 b3 s0 s1 s2 s3
      go_wp2
      (try simp only [Exit.inBlock, Exit.then])
      obtain ⟨wC, hwC⟩ : ∃ wC, wC = (((wr.setCell ⟨w.heap.size, 0, none⟩ (.int .u64 (z.st : Nat))).setCell ⟨w.heap.size, 1, none⟩ (.string z.n)).setCell ⟨w.heap.size, 2, none⟩ (.string z.val)).setCell ⟨w.heap.size, 3, none⟩ (.bool z.gone) := ⟨_, rfl⟩
      have bD : Bx wC w.heap.size 39 #[.int .u64 (z.st : Nat), .string z.n, .string z.val, .bool z.gone] := by rw [hwC]; exact (((rr.set 0 _).set 1 _).set 2 _).set 3 _
      have qC : Q w wC := by rw [hwC]; exact Q.set (Q.set (Q.set (Q.set (HQ1.out.trans q) (Nat.le_refl _) _) (Nat.le_refl _) _) (Nat.le_refl _) _) (Nat.le_refl _) _
      rw [← hwC]
      have v0 := bD.cell 0
      have v1 := bD.cell 1
      have v2 := bD.cell 2
      have v3 := bD.cell 3
      simp only [List.getElem?_toArray, List.getElem?_cons_zero, List.getElem?_cons_succ] at v0 v1 v2 v3
      refine bodyPost_ret (v := .tuple #[.agg #[.int .u64 (z.st : Nat), .string z.n, .string z.val, .bool z.gone], .bool f]) ?_ rfl ⟨rfl, qC⟩
      rw [results_cell_tmp rfl]
      go_simp
end Go.Proofs.Ythlbpjopkaninaa

namespace Go.Proofs.Ythlbpjopkaninaa
set_option maxRecDepth 100000
open Go.ChangeShapes Go.WideShapes Go.ChangeAt Go.RowKit
set_option linter.unusedVariables false
set_option linter.unusedSimpArgs false
end Go.Proofs.Ythlbpjopkaninaa

namespace Go.Proofs.Ythlbpjopkaninaa
set_option maxRecDepth 100000
open Go.ChangeShapes Go.WideShapes Go.ChangeAt Go.RowKit
set_option linter.unusedVariables false
set_option linter.unusedSimpArgs false
set_option maxHeartbeats 4000000 in
theorem gathered_any (l : List Itm) (v : Value) (w : World) (hl : l.length ≤ 100000) (ht : Itms w w.heap.size v l) :
    Calls Try.prog 60 #[v] w fun e w' => ∃ p, e = .returned (.map (some p)) ∧ w.heap.size ≤ p ∧ MapI p l.length (ofI l) w' ∧ Q w w' := by
  obtain ⟨A, c, rfl, -, -, hok, hcells⟩ := ht
  have HC := Lib.hid hcells
  have HK := Lib.hid hok
  have HI : Hid (∀ i, ∀ x ∈ ofI (l.take i), x.n.size ≤ maxLen) := Lib.hid (fun i x hx => (hok x (List.mem_of_mem_take (ofI_sub hx))).1)
  clear hcells hok
  have hmm := @run_makeMap Try.prog
  have m0 := MapI.made w
  have q0 := (Q.refl w).alloc (.map #[] 0)
  obtain ⟨W0, hW0⟩ : ∃ z, z = w.alloc (.map #[] 0) := ⟨_, rfl⟩
  rw [← hW0] at m0 q0
  have HM0 := Lib.hid m0
  have HQ0 := Lib.hid q0
  clear m0 q0
  go_enter Try.func60, Try.ntmps60
  go_wp2_with fail
  rw [← hW0]
  clear hW0 hmm
  go_loopw [9] (fun I wr => ∃ i : Nat, i ≤ l.length ∧ I = .int .i64 i ∧ MapI w.heap.size i (ofI (l.take i)) wr ∧ Q w wr) (fun I _ => l.length - (intOf I).toNat)
  case atStart => exact ⟨0, Nat.zero_le _, rfl, HM0.out, HQ0.out⟩
  case round =>
    obtain ⟨i, hil, rfl, hm, hbel⟩ := hrel
    by_cases hlt : i < l.length
    · obtain ⟨a, hAa, ha, hat⟩ := HC.out i hlt
      subst hAa
      obtain ⟨c0, c1⟩ := hat.keep (by rw [add_block]; exact ha) fun p hp => hbel.cell hp
      have hy0 := HK.out _ (List.getElem_mem hlt)
      have HW := Lib.hid (ofI_take l i hlt)
      obtain ⟨y, hy⟩ : ∃ y, y = l[i] := ⟨_, rfl⟩
      rw [← hy] at c0 c1 hy0 HW
      clear hy hat
      have hilt : (i : Int) < (l.length : Int) := by omega
      obtain ⟨w5, hrun, m5, g5, -⟩ := (hm.on ((Q.refl wr).alloc (.cells #[.string y.n, .string y.val] 58))).put (HI.out i) (x := y) hy0.1
      have q5 := g5.q (hbel.trans ((Q.refl wr).alloc (.cells #[.string y.n, .string y.val] 58))) (Nat.le_refl _)
      rw [← HW.out] at m5
      rw [itm] at hrun
      have RUN := Lib.hid hrun
      clear hrun hm g5 hy0
      go_wp2_with (at_mapUpdate; refine wpList_run_put RUN.out rfl _ _ _ rfl rfl rfl rfl ?_)
      go_roundw
      case rel => exact ⟨i + 1, by omega, by go_num, m5, q5⟩
      case measure => simp [intOf]; omega
    · have h2 : ¬ (i : Int) < (l.length : Int) := by omega
      rw [List.take_of_length_le (by omega)] at hm
      go_wp2
      go_ret
      exact ⟨_, rfl, Nat.le_refl _, hm.more hil, hbel⟩
/-- Two texts held against each other. -/
def cmpT (a b : ByteArray) : Int := if ltBZ a b = true then -1 else if ltBZ b a = true then 1 else 0
set_option maxHeartbeats 1000000 in
theorem cmpS_any (a b : ByteArray) (w : World) : Calls Try.prog 43 #[.string a, .string b] w fun e w' => e = .returned (.int .i64 (cmpT a b)) ∧ w' = w := by
  have hg := gtr_formZ a b
  cases h1 : ltBZ a b with
  | true =>
    have HV : Hid (cmpT a b = -1) := Lib.hid (by rw [cmpT, if_pos h1])
    have h3 : Op.bytesLess a.toList b.toList = true := h1
    clear hg h1
    go_enter Try.func43, Try.ntmps43
    go_wp2
    go_ret
    refine ⟨?_, rfl⟩
    rw [HV.out]
    rfl
  | false =>
    have h3 : Op.bytesLess a.toList b.toList = false := h1
    cases h2 : ltBZ b a with
    | true =>
      have HV : Hid (cmpT a b = 1) := Lib.hid (by rw [cmpT, h1, h2]; rfl)
      rw [h2] at hg
      have h4 : (a.toList == b.toList) = false := key_neZ (fun e => ltB_neZ h2 e.symm)
      clear hg h1 h2
      go_enter Try.func43, Try.ntmps43
      go_wp2
      go_ret
      refine ⟨?_, rfl⟩
      rw [HV.out]
      rfl
    | false =>
      have HV : Hid (cmpT a b = 0) := Lib.hid (by rw [cmpT, h1, h2]; rfl)
      rw [h2] at hg
      have h4 : (a.toList == b.toList) = true := by
        by_cases e : a = b
        · rw [e]; simp
        · rw [ltB_totalZ e h1] at h2; cases h2
      clear hg h1 h2
      go_enter Try.func43, Try.ntmps43
      go_wp2
      go_ret
      refine ⟨?_, rfl⟩
      rw [HV.out]
      rfl
end Go.Proofs.Ythlbpjopkaninaa

namespace Go.Proofs.Ythlbpjopkaninaa
set_option maxRecDepth 100000
open Go.ChangeShapes Go.WideShapes Go.ChangeAt Go.RowKit
open Go.ChangeMaps (setBlock)
set_option linter.unusedVariables false
set_option linter.unusedSimpArgs false
/-- Of the entries that have come, just these. -/
def ColI (es : Array MapEntry) (seen : Array Nat) (acc : List Itm) : Prop :=
  acc.length + (leftOf es seen).size ≤ es.size ∧ (∀ x ∈ acc, ∃ e ∈ es.toList, seen.contains e.born = true ∧ e.key = .string x.n ∧ e.val = itm x) ∧
  (∀ e ∈ es.toList, seen.contains e.born = true → ∃ x ∈ acc, e.key = .string x.n ∧ e.val = itm x) ∧ acc.Pairwise (fun x y => x.n ≠ y.n)
theorem ColI.nil (es : Array MapEntry) : ColI es #[] [] := by
  refine ⟨?_, by simp, fun e he h => by simp at h, List.Pairwise.nil⟩
  simp only [List.length_nil, Nat.zero_add]
  exact Array.size_filter_le
theorem itm_inj {x y : Itm} (h : itm x = itm y) : x = y := by
  obtain ⟨a, b⟩ := x
  obtain ⟨c, d⟩ := y
  unfold itm at h
  injection h with h
  injection h with h
  injection h with h1 h2
  injection h2 with h2 h3
  injection h1 with h1
  injection h2 with h2
  simp only at h1 h2
  rw [h1, h2]
theorem MI.item {es : List MapEntry} {clock : Nat} {L : List Itm} (h : MI es clock L) {e : MapEntry} (he : e ∈ es) : ∃ x ∈ L, e.key = .string x.n ∧ e.val = itm x := (h.1 e he).2
theorem pair_one {es : List MapEntry} (h : es.Pairwise (fun a b => a.key ≠ b.key)) {a b : MapEntry} (ha : a ∈ es) (hb : b ∈ es) (e : a.key = b.key) : a = b := by
  induction es with
  | nil => cases ha
  | cons z r ih =>
    obtain ⟨h1, h2⟩ := List.pairwise_cons.1 h
    rcases List.mem_cons.1 ha with ea | ka
    · rcases List.mem_cons.1 hb with eb | kb
      · rw [ea, eb]
      · exact absurd (ea ▸ e) (h1 _ kb)
    · rcases List.mem_cons.1 hb with eb | kb
      · exact absurd (eb ▸ e.symm) (h1 _ ka)
      · exact ih h2 ka kb
theorem born_one {es : List MapEntry} (h : (es.map (·.born)).Nodup) {a b : MapEntry} (ha : a ∈ es) (hb : b ∈ es) (e : a.born = b.born) : a = b := by
  induction es with
  | nil => cases ha
  | cons z r ih =>
    rw [List.map_cons, List.nodup_cons] at h
    rcases List.mem_cons.1 ha with ea | ka
    · rcases List.mem_cons.1 hb with eb | kb
      · rw [ea, eb]
      · exact absurd (List.mem_map.2 ⟨b, kb, by rw [← e, ea]⟩) h.1
    · rcases List.mem_cons.1 hb with eb | kb
      · exact absurd (List.mem_map.2 ⟨a, ka, by rw [e, eb]⟩) h.1
      · exact ih h.2 ka kb
theorem ColI.step {es : Array MapEntry} {clock : Nat} {L : List Itm} {seen : Array Nat} {acc : List Itm} (h : ColI es seen acc) (hm : MI es.toList clock L) {e : MapEntry} (he : e ∈ (leftOf es seen).toList) {x : Itm} (hk : e.key = .string x.n) (hv : e.val = itm x) :
    ColI es (seen.push e.born) (acc ++ [x]) := by
  obtain ⟨h1, h2, h3, h4⟩ := h
  obtain ⟨m1, m2⟩ := mem_left he
  have hsh := left_shrinks _ _ _ he
  refine ⟨by rw [List.length_append, List.length_singleton]; omega, fun y hy => ?_, fun f hf hs => ?_, ?_⟩
  · rcases List.mem_append.1 hy with hy | hy
    · obtain ⟨f, hf, a, b, c⟩ := h2 y hy
      exact ⟨f, hf, by simp at a ⊢; exact .inl a, b, c⟩
    · rw [List.mem_singleton] at hy
      subst hy
      exact ⟨e, m1, by simp, hk, hv⟩
  · by_cases hfs : seen.contains f.born = true
    · obtain ⟨y, hy, a, b⟩ := h3 f hf hfs
      exact ⟨y, List.mem_append.2 (.inl hy), a, b⟩
    · have hb : f.born = e.born := by
        simp at hs hfs
        rcases hs with hs | hs
        · exact absurd hs hfs
        · exact hs
      have hfe : f = e := by
        have hn := hm.2.1
        exact (born_one hn hf m1 hb)
      subst hfe
      exact ⟨x, by simp, hk, hv⟩
  · rw [List.pairwise_append]
    refine ⟨h4, List.pairwise_singleton _ _, fun a ha b hb => ?_⟩
    rw [List.mem_singleton] at hb
    subst hb
    intro q
    obtain ⟨f, hf, s, k, -⟩ := h2 a ha
    have : f = e := pair_one hm.2.2.1 hf m1 (by rw [k, hk, q])
    subst this
    rw [m2] at s; cases s
theorem ColI.all {es : Array MapEntry} {clock : Nat} {L : List Itm} {seen : Array Nat} {acc : List Itm} (h : ColI es seen acc) (hm : MI es.toList clock L) (h0 : (leftOf es seen).size = 0) : ∀ x, x ∈ acc ↔ x ∈ L := by
  intro x
  constructor
  · intro hx
    obtain ⟨e, he, -, -, hv⟩ := h.2.1 x hx
    obtain ⟨y, hy, -, hv2⟩ := hm.item he
    rw [hv] at hv2
    rw [itm_inj hv2]; exact hy
  · intro hx
    obtain ⟨e, he, -, hv⟩ := hm.2.2.2 x hx
    have hs : seen.contains e.born = true := by
      cases hc : seen.contains e.born with
      | true => rfl
      | false =>
        have : e ∈ (leftOf es seen) := by
          unfold leftOf
          simp only [Array.mem_filter]
          exact ⟨by simpa using he, by rw [hc]; rfl⟩
        have := Array.size_pos_of_mem this
        omega
    obtain ⟨y, hy, -, hv2⟩ := h.2.2.1 e he hs
    rw [hv] at hv2
    rw [itm_inj hv2]; exact hy
theorem sorted_is {α : Type} {f : α → ByteArray} {acc L' L : List α} (hp : L'.Perm acc) (hs : L'.Pairwise (fun x y => ltBZ (f y) (f x) = false)) (hd : acc.Pairwise (fun x y => f x ≠ f y)) (hL : Asc f L) (hm : ∀ x, x ∈ acc ↔ x ∈ L) : L' = L := by
  have hd2 : L'.Pairwise (fun x y => f x ≠ f y) := (hp.pairwise_iff (fun h => fun e => h e.symm)).2 hd
  refine Asc.same (f := f) ?_ hL fun x => (hp.mem_iff).trans (hm x)
  exact (hd2.and hs).imp fun h => ltB_totalZ (fun e => h.1 e.symm) h.2
end Go.Proofs.Ythlbpjopkaninaa

namespace Go.Proofs.Ythlbpjopkaninaa
set_option maxRecDepth 100000
open Go.ChangeShapes Go.WideShapes Go.ChangeAt Go.RowKit
set_option linter.unusedVariables false
set_option linter.unusedSimpArgs false
set_option maxRecDepth 100000
/-- Of the entries that have come, just these. -/
def ColN (es : Array MapEntry) (seen : Array Nat) (acc : List Nte) : Prop :=
  acc.length + (leftOf es seen).size ≤ es.size ∧ (∀ x ∈ acc, ∃ e ∈ es.toList, seen.contains e.born = true ∧ e.key = .string x.n ∧ e.val = nte x) ∧
  (∀ e ∈ es.toList, seen.contains e.born = true → ∃ x ∈ acc, e.key = .string x.n ∧ e.val = nte x) ∧ acc.Pairwise (fun x y => x.n ≠ y.n)
theorem ColN.nil (es : Array MapEntry) : ColN es #[] [] := by
  refine ⟨?_, by simp, fun e he h => by simp at h, List.Pairwise.nil⟩
  simp only [List.length_nil, Nat.zero_add]
  exact Array.size_filter_le
theorem nte_inj {x y : Nte} (h : nte x = nte y) : x = y := by
  obtain ⟨a, b, c, d⟩ := x
  obtain ⟨a', b', c', d'⟩ := y
  simp [nte] at h
  obtain ⟨h1, rfl, rfl, rfl⟩ := h
  obtain rfl : a = a' := by omega
  rfl
theorem MN.item {es : List MapEntry} {clock : Nat} {L : List Nte} (h : MN es clock L) {e : MapEntry} (he : e ∈ es) : ∃ x ∈ L, e.key = .string x.n ∧ e.val = nte x := (h.1 e he).2
theorem ColN.step {es : Array MapEntry} {clock : Nat} {L : List Nte} {seen : Array Nat} {acc : List Nte} (h : ColN es seen acc) (hm : MN es.toList clock L) {e : MapEntry} (he : e ∈ (leftOf es seen).toList) {x : Nte} (hk : e.key = .string x.n) (hv : e.val = nte x) :
    ColN es (seen.push e.born) (acc ++ [x]) := by
  obtain ⟨h1, h2, h3, h4⟩ := h
  obtain ⟨m1, m2⟩ := mem_left he
  have hsh := left_shrinks _ _ _ he
  refine ⟨by rw [List.length_append, List.length_singleton]; omega, fun y hy => ?_, fun f hf hs => ?_, ?_⟩
  · rcases List.mem_append.1 hy with hy | hy
    · obtain ⟨f, hf, a, b, c⟩ := h2 y hy
      exact ⟨f, hf, by simp at a ⊢; exact .inl a, b, c⟩
    · rw [List.mem_singleton] at hy
      subst hy
      exact ⟨e, m1, by simp, hk, hv⟩
  · by_cases hfs : seen.contains f.born = true
    · obtain ⟨y, hy, a, b⟩ := h3 f hf hfs
      exact ⟨y, List.mem_append.2 (.inl hy), a, b⟩
    · have hb : f.born = e.born := by
        simp at hs hfs
        rcases hs with hs | hs
        · exact absurd hs hfs
        · exact hs
      have hfe : f = e := by
        have hn := hm.2.1
        exact (born_one hn hf m1 hb)
      subst hfe
      exact ⟨x, by simp, hk, hv⟩
  · rw [List.pairwise_append]
    refine ⟨h4, List.pairwise_singleton _ _, fun a ha b hb => ?_⟩
    rw [List.mem_singleton] at hb
    subst hb
    intro q
    obtain ⟨f, hf, s, k, -⟩ := h2 a ha
    have : f = e := pair_one hm.2.2.1 hf m1 (by rw [k, hk, q])
    subst this
    rw [m2] at s; cases s
theorem ColN.all {es : Array MapEntry} {clock : Nat} {L : List Nte} {seen : Array Nat} {acc : List Nte} (h : ColN es seen acc) (hm : MN es.toList clock L) (h0 : (leftOf es seen).size = 0) : ∀ x, x ∈ acc ↔ x ∈ L := by
  intro x
  constructor
  · intro hx
    obtain ⟨e, he, -, -, hv⟩ := h.2.1 x hx
    obtain ⟨y, hy, -, hv2⟩ := hm.item he
    rw [hv] at hv2
    rw [nte_inj hv2]; exact hy
  · intro hx
    obtain ⟨e, he, -, hv⟩ := hm.2.2.2 x hx
    have hs : seen.contains e.born = true := by
      cases hc : seen.contains e.born with
      | true => rfl
      | false =>
        have : e ∈ (leftOf es seen) := by
          unfold leftOf
          simp only [Array.mem_filter]
          exact ⟨by simpa using he, by rw [hc]; rfl⟩
        have := Array.size_pos_of_mem this
        omega
    obtain ⟨y, hy, -, hv2⟩ := h.2.2.1 e he hs
    rw [hv] at hv2
    rw [nte_inj hv2]; exact hy
theorem sortedN_is {α : Type} {f : α → ByteArray} {acc L' L : List α} (hp : L'.Perm acc) (hs : L'.Pairwise (fun x y => ltBZ (f y) (f x) = false)) (hd : acc.Pairwise (fun x y => f x ≠ f y)) (hL : Asc f L) (hm : ∀ x, x ∈ acc ↔ x ∈ L) : L' = L := by
  have hd2 : L'.Pairwise (fun x y => f x ≠ f y) := (hp.pairwise_iff (fun h => fun e => h e.symm)).2 hd
  refine Asc.same (f := f) ?_ hL fun x => (hp.mem_iff).trans (hm x)
  exact (hd2.and hs).imp fun h => ltB_totalZ (fun e => h.1 e.symm) h.2
end Go.Proofs.Ythlbpjopkaninaa

namespace Go.Proofs.Ythlbpjopkaninaa
open Go.Shelf
def laysSN_ren : Go.Shelf.Ren := ⟨fun | 6 => 41 | 15 => 58 | 14 => 57 | 28 => 74 | 29 => 75 | 20 => 66 | 21 => 67 | 22 => 68 | 23 => 69 | 24 => 70 | 25 => 71 | 26 => 72 | 27 => 73 | 46 => 78 | 47 => 79 | 48 => 80 | 49 => 81 | 50 => 82 | 57 => 84 | n => n, fun | 22 => 22 | 24 => 39 | 25 => 76 | 3 => 3 | 39 => 96 | 0 => 0 | 53 => 116 | 55 => 35 | 4 => 4 | 46 => 109 | 45 => 108 | 50 => 113 | 5 => 5 | 9 => 9 | 66 => 120 | 70 => 124 | 76 => 127 | 77 => 90 | n => n, fun | n => n⟩
theorem laysSN : Go.Proofs.SlLaysF0.n6 Try.prog laysSN_ren := {
  mixed := by kernel_rfl
  f6 := ⟨Try.f41.name, by decide, Try.func41.trans (congrArg some (by kernel_rfl))⟩
  f14 := ⟨Try.f57.name, by decide, Try.func57.trans (congrArg some (by kernel_rfl))⟩
  f15 := Try.func58.trans (congrArg some (by kernel_rfl))
  f20 := ⟨Try.f66.name, by decide, Try.func66.trans (congrArg some (by kernel_rfl))⟩
  f21 := ⟨Try.f67.name, by decide, Try.func67.trans (congrArg some (by kernel_rfl))⟩
  f22 := ⟨Try.f68.name, by decide, Try.func68.trans (congrArg some (by kernel_rfl))⟩
  f23 := ⟨Try.f69.name, by decide, Try.func69.trans (congrArg some (by kernel_rfl))⟩
  f24 := ⟨Try.f70.name, by decide, Try.func70.trans (congrArg some (by kernel_rfl))⟩
  f25 := ⟨Try.f71.name, by decide, Try.func71.trans (congrArg some (by kernel_rfl))⟩
  f26 := ⟨Try.f72.name, by decide, Try.func72.trans (congrArg some (by kernel_rfl))⟩
  f27 := ⟨Try.f73.name, by decide, Try.func73.trans (congrArg some (by kernel_rfl))⟩
  f28 := Try.func74.trans (congrArg some (by kernel_rfl))
  f29 := Try.func75.trans (congrArg some (by kernel_rfl))
  f46 := ⟨Try.f78.name, by decide, Try.func78.trans (congrArg some (by kernel_rfl))⟩
  f47 := Try.func79.trans (congrArg some (by kernel_rfl))
  f48 := Try.func80.trans (congrArg some (by kernel_rfl))
  f49 := ⟨Try.f81.name, by decide, Try.func81.trans (congrArg some (by kernel_rfl))⟩
  f50 := ⟨Try.f82.name, by decide, Try.func82.trans (congrArg some (by kernel_rfl))⟩
  f57 := ⟨Try.f84.name, by decide, Try.func84.trans (congrArg some (by kernel_rfl))⟩
  t0 := Try.underlying0
  a0 := Try.isAgg0
  z0 := Try.sizeOf0
  v0 := Try.zeroValue0
  t3 := Try.underlying3
  a3 := Try.isAgg3
  z3 := Try.sizeOf3
  v3 := Try.zeroValue3
  t4 := Try.underlying4
  a4 := Try.isAgg4
  z4 := Try.sizeOf4
  v4 := Try.zeroValue4
  t5 := Try.underlying5
  a5 := Try.isAgg5
  z5 := Try.sizeOf5
  v5 := Try.zeroValue5
  t9 := Try.underlying9
  a9 := Try.isAgg9
  z9 := Try.sizeOf9
  v9 := Try.zeroValue9
  t22 := Try.underlying22
  a22 := Try.isAgg22
  z22 := Try.sizeOf22
  v22 := Try.zeroValue22
  t25 := Try.underlying76
  a25 := Try.isAgg76
  z25 := Try.sizeOf76
  v25 := Try.zeroValue76
  t39 := Try.underlying96
  a39 := Try.isAgg96
  z39 := Try.sizeOf96
  v39 := Try.zeroValue96
  t45 := Try.underlying108
  a45 := Try.isAgg108
  z45 := Try.sizeOf108
  v45 := Try.zeroValue108
  t46 := Try.underlying109
  a46 := Try.isAgg109
  z46 := Try.sizeOf109
  v46 := Try.zeroValue109
  t50 := Try.underlying113
  a50 := Try.isAgg113
  z50 := Try.sizeOf113
  v50 := Try.zeroValue113
  t53 := Try.underlying116
  a53 := Try.isAgg116
  z53 := Try.sizeOf116
  v53 := Try.zeroValue116
  t55 := Try.underlying35
  a55 := Try.isAgg35
  z55 := Try.sizeOf35
  v55 := Try.zeroValue35
  t66 := Try.underlying120
  a66 := Try.isAgg120
  z66 := Try.sizeOf120
  v66 := Try.zeroValue120
  t70 := Try.underlying124
  a70 := Try.isAgg124
  z70 := Try.sizeOf124
  v70 := Try.zeroValue124
  t76 := Try.underlying127
  a76 := Try.isAgg127
  z76 := Try.sizeOf127
  v76 := Try.zeroValue127
  t77 := Try.underlying90
  a77 := Try.isAgg90
  z77 := Try.sizeOf90
  v77 := Try.zeroValue90 }
def laysSI_ren : Go.Shelf.Ren := ⟨fun | 6 => 76 | 15 => 58 | 14 => 83 | 28 => 74 | 29 => 75 | 20 => 85 | 21 => 86 | 22 => 87 | 23 => 88 | 24 => 89 | 25 => 90 | 26 => 91 | 27 => 92 | 46 => 93 | 47 => 79 | 48 => 80 | 49 => 94 | 50 => 95 | 57 => 96 | n => n, fun | 22 => 45 | 24 => 58 | 25 => 119 | 3 => 3 | 39 => 96 | 0 => 0 | 53 => 116 | 55 => 35 | 4 => 4 | 46 => 109 | 45 => 108 | 50 => 113 | 5 => 5 | 9 => 9 | 66 => 120 | 70 => 124 | 76 => 127 | 77 => 90 | n => n, fun | n => n⟩
theorem laysSI : Go.Proofs.SlLaysF0.n6 Try.prog laysSI_ren := {
  mixed := by kernel_rfl
  f6 := ⟨Try.f76.name, by decide, Try.func76.trans (congrArg some (by kernel_rfl))⟩
  f14 := ⟨Try.f83.name, by decide, Try.func83.trans (congrArg some (by kernel_rfl))⟩
  f15 := Try.func58.trans (congrArg some (by kernel_rfl))
  f20 := ⟨Try.f85.name, by decide, Try.func85.trans (congrArg some (by kernel_rfl))⟩
  f21 := ⟨Try.f86.name, by decide, Try.func86.trans (congrArg some (by kernel_rfl))⟩
  f22 := ⟨Try.f87.name, by decide, Try.func87.trans (congrArg some (by kernel_rfl))⟩
  f23 := ⟨Try.f88.name, by decide, Try.func88.trans (congrArg some (by kernel_rfl))⟩
  f24 := ⟨Try.f89.name, by decide, Try.func89.trans (congrArg some (by kernel_rfl))⟩
  f25 := ⟨Try.f90.name, by decide, Try.func90.trans (congrArg some (by kernel_rfl))⟩
  f26 := ⟨Try.f91.name, by decide, Try.func91.trans (congrArg some (by kernel_rfl))⟩
  f27 := ⟨Try.f92.name, by decide, Try.func92.trans (congrArg some (by kernel_rfl))⟩
  f28 := Try.func74.trans (congrArg some (by kernel_rfl))
  f29 := Try.func75.trans (congrArg some (by kernel_rfl))
  f46 := ⟨Try.f93.name, by decide, Try.func93.trans (congrArg some (by kernel_rfl))⟩
  f47 := Try.func79.trans (congrArg some (by kernel_rfl))
  f48 := Try.func80.trans (congrArg some (by kernel_rfl))
  f49 := ⟨Try.f94.name, by decide, Try.func94.trans (congrArg some (by kernel_rfl))⟩
  f50 := ⟨Try.f95.name, by decide, Try.func95.trans (congrArg some (by kernel_rfl))⟩
  f57 := ⟨Try.f96.name, by decide, Try.func96.trans (congrArg some (by kernel_rfl))⟩
  t0 := Try.underlying0
  a0 := Try.isAgg0
  z0 := Try.sizeOf0
  v0 := Try.zeroValue0
  t3 := Try.underlying3
  a3 := Try.isAgg3
  z3 := Try.sizeOf3
  v3 := Try.zeroValue3
  t4 := Try.underlying4
  a4 := Try.isAgg4
  z4 := Try.sizeOf4
  v4 := Try.zeroValue4
  t5 := Try.underlying5
  a5 := Try.isAgg5
  z5 := Try.sizeOf5
  v5 := Try.zeroValue5
  t9 := Try.underlying9
  a9 := Try.isAgg9
  z9 := Try.sizeOf9
  v9 := Try.zeroValue9
  t22 := Try.underlying45
  a22 := Try.isAgg45
  z22 := Try.sizeOf45
  v22 := Try.zeroValue45
  t25 := Try.underlying119
  a25 := Try.isAgg119
  z25 := Try.sizeOf119
  v25 := Try.zeroValue119
  t39 := Try.underlying96
  a39 := Try.isAgg96
  z39 := Try.sizeOf96
  v39 := Try.zeroValue96
  t45 := Try.underlying108
  a45 := Try.isAgg108
  z45 := Try.sizeOf108
  v45 := Try.zeroValue108
  t46 := Try.underlying109
  a46 := Try.isAgg109
  z46 := Try.sizeOf109
  v46 := Try.zeroValue109
  t50 := Try.underlying113
  a50 := Try.isAgg113
  z50 := Try.sizeOf113
  v50 := Try.zeroValue113
  t53 := Try.underlying116
  a53 := Try.isAgg116
  z53 := Try.sizeOf116
  v53 := Try.zeroValue116
  t55 := Try.underlying35
  a55 := Try.isAgg35
  z55 := Try.sizeOf35
  v55 := Try.zeroValue35
  t66 := Try.underlying120
  a66 := Try.isAgg120
  z66 := Try.sizeOf120
  v66 := Try.zeroValue120
  t70 := Try.underlying124
  a70 := Try.isAgg124
  z70 := Try.sizeOf124
  v70 := Try.zeroValue124
  t76 := Try.underlying127
  a76 := Try.isAgg127
  z76 := Try.sizeOf127
  v76 := Try.zeroValue127
  t77 := Try.underlying90
  a77 := Try.isAgg90
  z77 := Try.sizeOf90
  v77 := Try.zeroValue90 }
end Go.Proofs.Ythlbpjopkaninaa

