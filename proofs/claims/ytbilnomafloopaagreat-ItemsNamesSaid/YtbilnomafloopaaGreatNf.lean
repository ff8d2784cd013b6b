/-
  Contract of the program's Diff. Contract of slices.Equal at items. Plain facts on numbers as octets, the lowest first. Contracts of the program's cut, cutCount, TakeNum, TakeText. Contracts of the program's lay, Num, layText, Text, List.
-/
import Derived.Test.YtbilnomafloopaaGreatNe
import Derived.Maps.RangeWalk
import Derived.Test.YtbilnomafloopaaGreatNa
import Derived.Lib.VarintMem
import Derived.Laws.Bits64b
import Derived.Laws.Shifts
namespace Go.Proofs.YtbilnomafloopaaGreat
set_option maxRecDepth 100000
open Go.ChangeShapes Go.WideShapes Go.ChangeAt Go.RowKit
open Go.ChangeMaps (setBlock)
set_option linter.unusedVariables false
set_option linter.unusedSimpArgs false
/-- What is told of the items that have come, of which those of A need not be told. -/
def newC (A acc : List Itm) : List Chg := (acc.filter fun x => decide (x ∉ A)).map fun x => ⟨x.n, x.val, false⟩
def goneC (acc : List Itm) : List Chg := acc.map fun y => ⟨y.n, ⟨#[]⟩, true⟩
theorem newC_no {A acc : List Itm} {x : Itm} (h : x ∈ A) : newC A (acc ++ [x]) = newC A acc := by
  unfold newC; rw [List.filter_append]; simp [h]
theorem newC_yes {A acc : List Itm} {x : Itm} (h : x ∉ A) : newC A (acc ++ [x]) = newC A acc ++ [⟨x.n, x.val, false⟩] := by
  unfold newC; rw [List.filter_append, List.map_append]; simp [h]
theorem newC_len (A acc : List Itm) : (newC A acc).length ≤ acc.length := by unfold newC; rw [List.length_map]; exact List.length_filter_le _ _
theorem goneC_snoc (acc : List Itm) (x : Itm) : goneC (acc ++ [x]) = goneC acc ++ [⟨x.n, ⟨#[]⟩, true⟩] := by unfold goneC; simp
theorem goneC_len (acc : List Itm) : (goneC acc).length = acc.length := by unfold goneC; simp
def DifI (A : List Itm) (es : Array MapEntry) (seen : Array Nat) (acc Ad : List Itm) : Prop :=
  ColI es seen acc ∧ Asc Itm.n Ad ∧ ∀ y, y ∈ Ad ↔ y ∈ A ∧ ∀ x ∈ acc, x.n ≠ y.n
theorem DifI.nil {A : List Itm} (hA : Asc Itm.n A) (es : Array MapEntry) : DifI A es #[] [] A := ⟨ColI.nil es, hA, fun y => by simp⟩
theorem DifI.step {A : List Itm} {es : Array MapEntry} {clock : Nat} {B : List Itm} {seen : Array Nat} {acc Ad : List Itm} (h : DifI A es seen acc Ad) (hm : MI es.toList clock B) {e : MapEntry} (he : e ∈ (leftOf es seen).toList) {x : Itm} (hk : e.key = .string x.n) (hv : e.val = itm x) :
    DifI A es (seen.push e.born) (acc ++ [x]) (Ad.filter (fun y => decide (y.n ≠ x.n))) := by
  refine ⟨h.1.step hm he hk hv, h.2.1.filter _, fun y => ?_⟩
  rw [List.mem_filter, h.2.2 y]
  simp only [decide_eq_true_eq, List.mem_append, List.mem_singleton]
  constructor
  · rintro ⟨⟨h1, h2⟩, h3⟩
    refine ⟨h1, fun z hz => ?_⟩
    rcases hz with hz | rfl
    · exact h2 z hz
    · exact fun e => h3 e.symm
  · rintro ⟨h1, h2⟩
    exact ⟨⟨h1, fun z hz => h2 z (.inl hz)⟩, fun e => h2 x (.inr rfl) e.symm⟩
/-- A name that has not come yet. -/
theorem ColI.fresh {es : Array MapEntry} {clock : Nat} {B : List Itm} {seen : Array Nat} {acc : List Itm} (h : ColI es seen acc) (hm : MI es.toList clock B) {e : MapEntry} (he : e ∈ (leftOf es seen).toList) {x : Itm} (hk : e.key = .string x.n) : ∀ z ∈ acc, z.n ≠ x.n := by
  intro z hz q
  obtain ⟨m1, m2⟩ := mem_left he
  obtain ⟨f, hf, s, k, -⟩ := h.2.1 z hz
  have : f = e := pair_one hm.2.2.1 hf m1 (by rw [k, hk, q])
  subst this
  rw [m2] at s; cases s
theorem sorted_asc {α : Type} {f : α → ByteArray} {acc L' : List α} (hp : L'.Perm acc) (hs : L'.Pairwise (fun x y => ltBZ (f y) (f x) = false)) (hd : acc.Pairwise (fun x y => f x ≠ f y)) : Asc f L' := by
  have hd2 : L'.Pairwise (fun x y => f x ≠ f y) := (hp.pairwise_iff (fun h => fun e => h e.symm)).2 hd
  exact (hd2.and hs).imp fun h => ltB_totalZ (fun e => h.1 e.symm) h.2
theorem DifI.done {A B : List Itm} (hA : Asc Itm.n A) (hB : Asc Itm.n B) {es : Array MapEntry} {seen : Array Nat} {acc Ad accA : List Itm} (h : DifI A es seen acc Ad) (hb : ∀ x, x ∈ acc ↔ x ∈ B) (ha : ∀ x, x ∈ accA ↔ x ∈ Ad) (hd : accA.Pairwise (fun x y => x.n ≠ y.n))
    {L' : List Chg} (hp : L'.Perm (newC A acc ++ goneC accA)) (hs : L'.Pairwise (fun x y => ltBZ y.n x.n = false)) : DiffIs A B L' := by
  refine ⟨sorted_asc hp hs ?_, fun c => (hp.mem_iff).trans ?_⟩
  · rw [List.pairwise_append]
    refine ⟨?_, ?_, fun a ha2 b hb2 => ?_⟩
    · unfold newC
      rw [List.pairwise_map]
      exact List.Pairwise.filter _ h.1.2.2.2
    · unfold goneC
      rw [List.pairwise_map]
      exact hd
    · obtain ⟨x, hx, rfl⟩ := List.mem_map.1 ha2
      obtain ⟨y, hy, rfl⟩ := List.mem_map.1 hb2
      exact ((h.2.2 y).1 ((ha y).1 hy)).2 x (List.mem_filter.1 hx).1
  · rw [List.mem_append]
    unfold newC goneC DiffC
    constructor
    · rintro (h1 | h1)
      · obtain ⟨x, hx, rfl⟩ := List.mem_map.1 h1
        obtain ⟨hx1, hx2⟩ := List.mem_filter.1 hx
        exact .inl ⟨x, (hb x).1 hx1, by simpa using hx2, rfl⟩
      · obtain ⟨y, hy, rfl⟩ := List.mem_map.1 h1
        obtain ⟨k1, k2⟩ := (h.2.2 y).1 ((ha y).1 hy)
        exact .inr ⟨y, k1, fun x hx => k2 x ((hb x).2 hx), rfl⟩
    · rintro (⟨x, hx, hn, rfl⟩ | ⟨y, hy, hn, rfl⟩)
      · exact .inl (List.mem_map.2 ⟨x, List.mem_filter.2 ⟨(hb x).2 hx, by simpa using hn⟩, rfl⟩)
      · exact .inr (List.mem_map.2 ⟨y, (ha y).2 ((h.2.2 y).2 ⟨hy, fun x hx => hn x ((hb x).1 hx)⟩), rfl⟩)
/-- A row's block is no iterator's. -/
theorem own_not {w : World} {base T k n : Nat} {v : Value} {xs : List Value} (h : w.ownsRow base T k v n xs) {r : Nat} {m : Option Nat} {a c : Nat} {s : Array Nat} (hr : w.heap[r]? = some (.mapIter m a s c)) : v.ownBlock ≠ some r := by
  rcases h.2 with ⟨rfl, -⟩ | ⟨g, cap, cur, rfl, -, hg, -⟩
  · simp [Value.ownBlock]
  · intro e
    simp [Value.ownBlock] at e
    subst e
    rw [hg] at hr
    cases hr
theorem OwnH.kpT {base r : Nat} {w w' : World} {v : Value} {l : List Chg} (h : OwnH base w v l) (g : Kp r w w') {m : Option Nat} {a c : Nat} {s : Array Nat} (hr : w.heap[r]? = some (.mapIter m a s c)) : OwnH base w' v l := by
  refine World.ownsRow.kept h g ?_
  have := own_not h hr
  cases e : v.ownBlock with
  | none => exact .inl rfl
  | some k => exact .inr (by rw [e] at this; exact this)
theorem MapI.same {p n : Nat} {L : List Itm} {w w' : World} (h : MapI p n L w) (e : w'.heap[p]? = w.heap[p]?) : MapI p n L w' := by
  obtain ⟨es, c, hb, hm⟩ := h; exact ⟨es, c, e.trans hb, hm⟩
theorem OwnH.kp2 {base r : Nat} {w w' : World} {v : Value} {l : List Chg} (h : OwnH base w v l) (g : Kp r w w') (hn : r < base) : OwnH base w' v l := by
  refine World.ownsRow.kept h g ?_
  cases e : v.ownBlock with
  | none => exact .inl rfl
  | some k => refine .inr fun e2 => ?_; injection e2 with e2; have := (World.ownsRow.lt h k e).1; omega
theorem cells_chg3 (w : World) (o1 o2 : Obj) (x : Chg) (t : TypeId) : ∀ j u, (hcl x)[j]? = some u → (((w.alloc o1).alloc o2).alloc (.cells (hcl x).toArray t)).cell? ((⟨w.heap.size + 1 + 1, 0, none⟩ : Addr).add j) = some u := by
  have h := cells_onechg ((w.alloc o1).alloc o2) x t
  simp only [World.size_alloc] at h
  exact h
set_option maxHeartbeats 32000000 in
theorem diff_any (a b : List Itm) (va vb : Value) (w : World) (hl : a.length ≤ 40000) (hlb : b.length ≤ 40000) (ha : Itms w w.heap.size va a) (hb : Itms w w.heap.size vb b) :
    Calls Tryz.prog 25 #[va, vb] w fun e w' => ∃ v', e = .returned v' ∧ ∃ c, OwnH w.heap.size w' v' c ∧ DiffIs (ofI a) (ofI b) c ∧ Q w w' := by
  have G1 := Lib.hid (gathered_any a va w (by omega) ha)
  have G2 := Lib.hid (fun (x : World) (q : Q w x) => gathered_any b vb x (by omega) (hb.on q))
  have HOA : Hid (∀ x ∈ ofI a, x.n.size ≤ maxLen ∧ x.val.size ≤ maxLen) := Lib.hid (fun x hx => ha.okAll x (ofI_sub hx))
  have HOB : Hid (∀ x ∈ ofI b, x.n.size ≤ maxLen ∧ x.val.size ≤ maxLen) := Lib.hid (fun x hx => hb.okAll x (ofI_sub hx))
  have HAA := Lib.hid (ofI_asc a)
  have HAB := Lib.hid (ofI_asc b)
  obtain ⟨A, hA⟩ : ∃ A, A = ofI a := ⟨_, rfl⟩
  obtain ⟨B, hB⟩ : ∃ B, B = ofI b := ⟨_, rfl⟩
  rw [← hA] at G1 HOA HAA ⊢
  rw [← hB] at G2 HOB HAB ⊢
  clear ha hb hA hB
  go_enter Tryz.func25, Tryz.ntmps25
  go_wp2_with fail
  refine (G1.out).mono ?_
  rintro e w1 ⟨p1, rfl, hp1, m1, q1⟩
  have lt1 := m1.lt
  go_wp2_with fail
  refine (G2.out _ q1).mono ?_
  rintro e wo ⟨p2, rfl, hp2, m2, q2⟩
  have m1 := m1.on q2
  have hbel := q1.trans q2
  clear G1 G2 q1 q2
  obtain ⟨es, clock, hmb, hmi, hes⟩ := m2
  have HMI := Lib.hid hmi
  have hes2 : es.size ≤ 40000 := by omega
  have hp12 : p1 < p2 := by omega
  clear hmi hes
  go_wp2_with (refine wpList_range_w _ rfl _ rfl _ _ _ rfl hmb ?_)
  have hpi : p2 < wo.heap.size := lt_of_block hmb
  have it0 : (wo.alloc (.mapIter (some p2) clock #[] clock)).heap[wo.heap.size]? = some (.mapIter (some p2) clock #[] clock) := heap_new _ _
  have qa := hbel.trans ((Q.refl wo).alloc (.mapIter (some p2) clock #[] clock))
  have mb0 := (((Q.refl wo).alloc (.mapIter (some p2) clock #[] clock)).block p2 hpi).trans hmb
  have ma0 := m1.on ((Q.refl wo).alloc (.mapIter (some p2) clock #[] clock))
  have sz0 : (wo.alloc (.mapIter (some p2) clock #[] clock)).heap.size = wo.heap.size + 1 := World.size_alloc ..
  obtain ⟨pi, hpi2⟩ : ∃ z, z = wo.heap.size := ⟨_, rfl⟩
  obtain ⟨y1, hy1⟩ : ∃ z, z = wo.alloc (.mapIter (some p2) clock #[] clock) := ⟨_, rfl⟩
  rw [← hy1, ← hpi2] at it0
  rw [← hy1] at qa mb0 ma0
  rw [← hy1, ← hpi2] at sz0
  rw [← hy1, ← hpi2]
  rw [← hpi2] at hpi
  have hwpi : w.heap.size ≤ pi := by rw [hpi2]; exact hbel.size
  have hw1 : w.heap.size ≤ p1 := hp1
  clear hy1 hpi2 hmb hbel m1 hp1 hp2 lt1
  have HIT := Lib.hid it0
  have HMB := Lib.hid mb0
  have HMA := Lib.hid ma0
  have HQA := Lib.hid qa
  have HSZ := Lib.hid sz0
  clear it0 mb0 ma0 qa sz0
  (try simp only [Act.put, List.setIfInBounds_toArray, List.set_cons_zero, List.set_cons_succ])
  go_loopw [6] (fun O wr => ∃ (seen : Array Nat) (c0 : Nat) (acc Ad : List Itm), wr.heap[pi]? = some (.mapIter (some p2) clock seen c0) ∧ clock ≤ c0 ∧ wr.heap[p2]? = some (.map es clock) ∧ MapI p1 a.length Ad wr ∧ DifI A es seen acc Ad ∧ OwnH (pi + 1) wr O (newC A acc) ∧ Q w wr ∧ pi < wr.heap.size) (fun _ wr => leftW wr pi es)
  case atStart => exact ⟨#[], clock, [], A, HIT.out, Nat.le_refl _, HMB.out, HMA.out, DifI.nil HAA.out es, OwnH.nil _ _, HQA.out, by have := HSZ.out; omega⟩
  case round =>
    obtain ⟨seen, c0, acc, Ad, hit, hc0, hmr, hma, hdif, hown, q, hlt2⟩ := hrel
    clear HIT HMB HMA HQA HSZ
    have hold : ∀ e ∈ es.toList, e.born < clock := fun e he => (HMI.out.1 e he).1
    have HDIF := Lib.hid hdif
    have hAd : ∀ y ∈ Ad, y ∈ A := fun y hy => ((hdif.2.2 y).1 hy).1
    clear hdif
    have hal : acc.length ≤ 40000 := by have := HDIF.out.1.1; omega
    have hnl : (newC A acc).length ≤ 40000 := Nat.le_trans (newC_len A acc) hal
    by_cases hleft : (leftOf es seen).size = 0
    · obtain ⟨wq, hwq⟩ : ∃ x, x = wr := ⟨_, rfl⟩
      subst hwq
      have HALL := Lib.hid (HDIF.out.1.all HMI.out hleft)
      obtain ⟨es1, clock1, hmb1, hmi1, hes1⟩ := hma
      have HM1 := Lib.hid hmi1
      clear hmi1
      go_wp2_with (first
        | (at_next; refine wpList_next_w _ rfl _ rfl _ _ _ _ _ _ _ rfl hit hmr hold hc0 (fun _ => ?_) (fun e he => (leftW_empty hleft he).elim))
        | (at_range; refine wpList_range_w _ rfl _ rfl _ _ _ rfl hmb1 ?_))
      clear hmr hold hit hc0 hleft
      have hp1q : p1 < wq.heap.size := lt_of_block hmb1
      have it0 : (wq.alloc (.mapIter (some p1) clock1 #[] clock1)).heap[wq.heap.size]? = some (.mapIter (some p1) clock1 #[] clock1) := heap_new _ _
      have qa := q.trans ((Q.refl wq).alloc (.mapIter (some p1) clock1 #[] clock1))
      have mb0 := (((Q.refl wq).alloc (.mapIter (some p1) clock1 #[] clock1)).block p1 hp1q).trans hmb1
      have oo0 := OwnH.on hown ((Q.refl wq).alloc (.mapIter (some p1) clock1 #[] clock1))
      obtain ⟨pj, hpj⟩ : ∃ z, z = wq.heap.size := ⟨_, rfl⟩
      obtain ⟨y2, hy2⟩ : ∃ z, z = wq.alloc (.mapIter (some p1) clock1 #[] clock1) := ⟨_, rfl⟩
      rw [← hy2, ← hpj] at it0
      rw [← hy2] at qa mb0 oo0
      rw [← hy2, ← hpj]
      have hwpj : w.heap.size ≤ pj := by rw [hpj]; exact q.size
      have hpp : pi < pj := by rw [hpj]; exact hlt2
      clear hy2 hpj hmb1 q hown hlt2 hp1q
      have HIT := Lib.hid it0
      have HMB := Lib.hid mb0
      have HQA := Lib.hid qa
      have HOO := Lib.hid oo0
      clear it0 mb0 qa oo0
      (try simp only [Act.put, List.setIfInBounds_toArray, List.set_cons_zero, List.set_cons_succ])
      go_loopw [6] (fun O wr => ∃ (seen2 : Array Nat) (c2 : Nat) (accA : List Itm), wr.heap[pj]? = some (.mapIter (some p1) clock1 seen2 c2) ∧ clock1 ≤ c2 ∧ wr.heap[p1]? = some (.map es1 clock1) ∧ ColI es1 seen2 accA ∧ OwnH (pi + 1) wr O (newC A acc ++ goneC accA) ∧ Q w wr) (fun _ wr => leftW wr pj es1)
      case atStart => exact ⟨#[], clock1, [], HIT.out, Nat.le_refl _, HMB.out, ColI.nil _, by have := HOO.out; simpa [goneC] using this, HQA.out⟩
      case round =>
        obtain ⟨seen2, c2, accA, hit2, hc2, hmr2, hcol2, hown2, q2⟩ := hrel
        clear HIT HMB HQA HOO
        have hold2 : ∀ e ∈ es1.toList, e.born < clock1 := fun e he => (HM1.out.1 e he).1
        have HCOL := Lib.hid hcol2
        clear hcol2
        have hal2 : accA.length ≤ 40000 := by have := HCOL.out.1; omega
        have hll : (newC A acc ++ goneC accA).length ≤ 80000 := by rw [List.length_append, goneC_len]; omega
        by_cases hleft2 : (leftOf es1 seen2).size = 0
        · have HALL2 := Lib.hid (HCOL.out.all HM1.out hleft2)
          have C := Lib.hid (fun (x : World) (v : Value) (h : OwnH (pi + 1) x v (newC A acc ++ goneC accA)) => sH_sort _ v (pi + 1) x h (by omega))
          go_wp2_with (first
            | (at_next; refine wpList_next_w _ rfl _ rfl _ _ _ _ _ _ _ rfl hit2 hmr2 hold2 hc2 (fun _ => ?_) (fun e he => (leftW_empty hleft2 he).elim))
            | (go_at_call 44; refine (C.out _ _ hown2).mono ?_; rintro e w6 ⟨rfl, L', hp6, hs6, o6, g6⟩))
          go_ret
          have hfin := HDIF.out.done HAA.out HAB.out HALL.out HALL2.out HCOL.out.2.2.2 hp6 hs6
          exact ⟨_, rfl, L', OwnH.low o6 (by omega), hfin, Below.grown q2 g6 q2.size (fun k hk => by have := (World.ownsRow.lt hown2 k hk).1; omega)⟩
        · go_upto_region 13 with (first
            | (at_next; refine wpList_next_w _ rfl _ rfl _ _ _ _ _ _ _ rfl hit2 hmr2 hold2 hc2 (fun h => absurd h hleft2) ?_; intro en hen w5 hw5; have hmem := (mem_left hen).1; obtain ⟨-, x', hxm, hk', hv'⟩ := HM1.out.1 en hmem; have k5 := map_kp w5 pj (.mapIter (some p1) clock1 (seen2.push en.born) clock1); have hit4 := iterW_at hit2 hw5; have hit5 := iterW_set hit4 (o' := .mapIter (some p1) clock1 (seen2.push en.born) clock1); have q50 := iterW_q q2 hw5; have mr5 := iterW_at hmr2 hw5; have o50 : OwnH (pi + 1) w5 _ (newC A acc ++ goneC accA) := (by (rcases hw5 with rfl | rfl; exact hown2; exact OwnH.on hown2 (Q.refl _).drew)))
            | (refine wpList_entry_w _ rfl _ rfl _ _ _ _ _ _ en rfl hit5 (((k5.block p1 (lt_of_block mr5) (by simp; omega))).trans mr5) hmem HM1.out.2.1 ?_; rw [hk', hv', itm]))
          have hmr6 := (k5.block p1 (lt_of_block mr5) (by simp; omega)).trans mr5
          have q6 := k5.q q50 hwpj
          have o6 := o50.kpT k5 hit4
          have HC2 := Lib.hid (HCOL.out.step HM1.out hen hk' hv')
          have HMS : Hid ((leftOf es1 (seen2.push en.born)).size < (leftOf es1 seen2).size) := Lib.hid (left_shrinks _ _ _ hen)
          have hszs : pj < (setBlock w5 pj (.mapIter (some p1) clock1 (seen2.push en.born) clock1)).heap.size := lt_of_block hit5
          obtain ⟨ws, hws⟩ : ∃ z, z = setBlock w5 pj (.mapIter (some p1) clock1 (seen2.push en.born) clock1) := ⟨_, rfl⟩
          rw [← hws] at hit5 hmr6 q6 o6 hszs ⊢
          clear hws hw5 k5 q50 mr5 o50 hit4 hmr2 hown2 q2 hen hmem hleft2 hxm
          have HNB := Lib.hid (own_not o6 hit5)
          have hitH := Lib.hid hit5
          have HGS : Hid (newC A acc ++ goneC (accA ++ [x']) = (newC A acc ++ goneC accA) ++ [⟨x'.n, ⟨#[]⟩, true⟩]) := Lib.hid (by rw [goneC_snoc, List.append_assoc])
          clear hit5
          go_wp2_with (at_builtin; refine wpList_snoc_chg _ rfl _ _ 40 72 Tryz.underlying40 rfl (pi + 1) ws.heap.size _ (newC A acc ++ goneC accA) ⟨x'.n, ⟨#[]⟩, true⟩ rfl rfl (cells_chg1 ws ⟨x'.n, ⟨#[]⟩, true⟩ 72) (World.ownsRow.alloc o6 _) ?hb ?hl ?_; (case hb => simp; omega); (case hl => omega); intro v8 w8 o8 g8)
          rw [← HGS.out] at o8
          have q8 : Q w w8 := Below.grown (q6.alloc _) g8 (by have := q6.size; simp; omega) (fun k hk => by have := (World.ownsRow.lt o6 k hk).1; omega)
          have it8 := ((g8.block pj (by simp; omega) (fun e => HNB.out e.symm)).trans (Below.block ((Q.refl ws).alloc _) pj hszs)).trans hitH.out
          have mr8 := ((g8.block p1 (by simp; omega) (fun e => by have := (World.ownsRow.lt o6 p1 e.symm).1; omega)).trans (Below.block ((Q.refl ws).alloc _) p1 (by omega))).trans hmr6
          go_roundw
          case rel => exact ⟨_, _, _, it8, Nat.le_refl _, mr8, HC2.out, o8, q8⟩
          case measure => simp only [leftW, it8, hit2]; exact HMS.out
    · go_upto_region 6 with (first
        | (at_next; refine wpList_next_w _ rfl _ rfl _ _ _ _ _ _ _ rfl hit hmr hold hc0 (fun h => absurd h hleft) ?_; intro en hen w5 hw5; have hmem := (mem_left hen).1; obtain ⟨-, x', hxm, hk', hv'⟩ := HMI.out.1 en hmem; have k5 := map_kp w5 pi (.mapIter (some p2) clock (seen.push en.born) clock); have hit4 := iterW_at hit hw5; have hit5 := iterW_set hit4 (o' := .mapIter (some p2) clock (seen.push en.born) clock); have q50 := iterW_q q hw5; have lt5 : pi < w5.heap.size := lt_of_block hit4; have mr5 := iterW_at hmr hw5; have o50 : OwnH (pi + 1) w5 u6 (newC A acc) := (by (rcases hw5 with rfl | rfl; exact hown; exact OwnH.on hown (Q.refl _).drew)); have ma5 : MapI p1 a.length Ad w5 := (by (rcases hw5 with rfl | rfl; exact hma; exact hma.on (Q.refl _).drew)))
        | (refine wpList_entry_w _ rfl _ rfl _ _ _ _ _ _ en rfl hit5 (((k5.block p2 (lt_of_block mr5) (by simp; omega))).trans mr5) hmem HMI.out.2.1 ?_; rw [hk', hv', itm]))
      have hmr6 := (k5.block p2 (lt_of_block mr5) (by simp; omega)).trans mr5
      have q6 := k5.q q50 hwpi
      have o6 := o50.kpT k5 hit4
      have ma6 := ma5.kp k5 (by omega)
      have lt6 : pi < (setBlock w5 pi (.mapIter (some p2) clock (seen.push en.born) clock)).heap.size := Nat.lt_of_lt_of_le lt5 k5.size
      have HC2 := Lib.hid (HDIF.out.step HMI.out hen hk' hv')
      have HFR := Lib.hid (HDIF.out.1.fresh HMI.out hen hk')
      have HMS : Hid ((leftOf es (seen.push en.born)).size < (leftOf es seen).size) := Lib.hid (left_shrinks _ _ _ hen)
      obtain ⟨ws, hws⟩ : ∃ z, z = setBlock w5 pi (.mapIter (some p2) clock (seen.push en.born) clock) := ⟨_, rfl⟩
      rw [← hws] at hit5 hmr6 q6 o6 lt6 ma6 ⊢
      clear hws hw5 k5 q50 lt5 mr5 o50 ma5 hit4 hmr hma hown q hlt2 hen hmem hleft
      have hitH := Lib.hid hit5
      have hxo := HOB.out x' hxm
      clear hit5
      have mL := ma6.on ((Q.refl ws).alloc (.cells #[.string x'.n, .string x'.val] 68))
      have hlk := mL.look HDIF.out.2.1 (fun y hy => (HOA.out y (hAd y hy)).1) hxo.1
      have hsd : ∀ y ∈ Ad, y.n.size ≤ maxLen := fun y hy => (HOA.out y (hAd y hy)).1
      rcases hlk with ⟨y, hy, hyn, hrunL⟩ | ⟨hno, hrunL⟩
      · have hyA := hAd y hy
        rw [itm] at hrunL
        have hrunL2 : (Instr.lookup 90 (.map (some p1)) (.string x'.n) true).run Tryz.prog (ws.alloc (.cells #[.string x'.n, .string x'.val] 68)) = .ok (.tuple #[.agg #[.string y.n, .string y.val], .bool true]) (ws.alloc (.cells #[.string x'.n, .string x'.val] 68)) := hrunL
        clear hrunL
        have mD := mL.on ((Q.refl _).alloc (.cells #[.string y.n, .string y.val] 68))
        have qD := (q6.alloc (.cells #[.string x'.n, .string x'.val] 68)).alloc (.cells #[.string y.n, .string y.val] 68)
        by_cases hvv : y.val = x'.val
        · have hxA : x' ∈ A := by
            have : x' = y := by cases x'; cases y; simp only at hyn hvv; rw [hyn, hvv]
            rw [this]; exact hyA
          have HNC := Lib.hid (newC_no (acc := acc) hxA)
          have hve : (y.val.toList == x'.val.toList) = true := by rw [hvv]; simp
          obtain ⟨w9, hrun9, m9, g9, -⟩ := mD.del hsd hxo.1 0
          have RUN := Lib.hid hrun9
          have q9 := g9.q qD hw1
          have o9 : OwnH (pi + 1) w9 u6 (newC A (acc ++ [x'])) := by rw [HNC.out]; exact OwnH.kp2 (OwnH.on o6 (((Q.refl ws).alloc _).alloc _)) g9 (by omega)
          have it9 := ((g9.block pi (by simp; omega) (by simp; omega)).trans (Below.block (((Q.refl ws).alloc (.cells #[.string x'.n, .string x'.val] 68)).alloc (.cells #[.string y.n, .string y.val] 68)) pi lt6)).trans hitH.out
          have mr9 := ((g9.block p2 (by simp; omega) (by simp; omega)).trans (Below.block (((Q.refl ws).alloc (.cells #[.string x'.n, .string x'.val] 68)).alloc (.cells #[.string y.n, .string y.val] 68)) p2 (by omega))).trans hmr6
          clear hrun9 mD qD g9 mL o6 hvv hy hyA hyn
          go_wp2_with (at_delete; refine wpList_run_del RUN.out rfl _ _ rfl rfl rfl ?_)
          (try simp only [Act.put, List.setIfInBounds_toArray, List.set_cons_zero, List.set_cons_succ])
          go_roundw
          case rel => exact ⟨_, _, _, _, it9, Nat.le_refl _, mr9, m9, HC2.out, o9, q9, lt_of_block it9⟩
          case measure => simp only [leftW, it9, hit]; exact HMS.out
        · have hxA : x' ∉ A := fun h => hvv (by have := HAA.out.one h hyA hyn.symm; rw [this])
          have HNC := Lib.hid (newC_yes (acc := acc) hxA)
          have hve : (y.val.toList == x'.val.toList) = false := key_neZ hvv
          clear mD qD mL hvv hy hyA hyn hxA
          go_wp2_with (first
            | (at_builtin; refine wpList_snoc_chg _ rfl _ _ 40 72 Tryz.underlying40 rfl (pi + 1) (ws.heap.size + 1 + 1) _ (newC A acc) ⟨x'.n, x'.val, false⟩ rfl rfl (cells_chg3 ws _ _ ⟨x'.n, x'.val, false⟩ 72) (World.ownsRow.alloc (World.ownsRow.alloc (World.ownsRow.alloc o6 _) _) _) ?hb ?hl ?_; (case hb => simp; omega); (case hl => omega); intro v8 w8 o8 g8; rw [← HNC.out] at o8; have nb8 : ∀ k, k < pi + 1 → w8.heap[k]? = ws.heap[k]? := fun k hk => (g8.block k (by simp; omega) (fun e => by have := (World.ownsRow.lt o6 k e.symm).1; omega)).trans (Below.block ((((Q.refl ws).alloc _).alloc _).alloc _) k (by omega)); have m8 := ma6.same (nb8 p1 (by omega)); have q8 : Q w w8 := Below.grown (((q6.alloc _).alloc _).alloc _) g8 (by have := q6.size; simp; omega) (fun k hk => by have := (World.ownsRow.lt o6 k hk).1; omega); obtain ⟨w9, hrun9, m9, g9, -⟩ := m8.del hsd hxo.1 0)
            | (at_delete; refine wpList_run_del hrun9 rfl _ _ rfl rfl rfl ?_))
          (try simp only [Act.put, List.setIfInBounds_toArray, List.set_cons_zero, List.set_cons_succ])
          have q9 := g9.q q8 hw1
          have o9 := OwnH.kp2 o8 g9 (by omega)
          have lt8 := Nat.lt_of_lt_of_le lt6 (show ws.heap.size ≤ w8.heap.size by have := g8.size; simp at this; omega)
          have it9 := ((g9.block pi lt8 (by simp; omega)).trans (nb8 pi (Nat.lt_succ_self _))).trans hitH.out
          have mr9 := ((g9.block p2 (by omega) (by simp; omega)).trans (nb8 p2 (by omega))).trans hmr6
          go_roundw
          case rel => exact ⟨_, _, _, _, it9, Nat.le_refl _, mr9, m9, HC2.out, o9, q9, lt_of_block it9⟩
          case measure => simp only [leftW, it9, hit]; exact HMS.out
      · have hxA : x' ∉ A := fun h => hno x' ((HDIF.out.2.2 x').2 ⟨h, HFR.out⟩) rfl
        have HNC := Lib.hid (newC_yes (acc := acc) hxA)
        rw [itm] at hrunL
        have hrunL2 : (Instr.lookup 90 (.map (some p1)) (.string x'.n) true).run Tryz.prog (ws.alloc (.cells #[.string x'.n, .string x'.val] 68)) = .ok (.tuple #[.agg #[.string ⟨#[]⟩, .string ⟨#[]⟩], .bool false]) (ws.alloc (.cells #[.string x'.n, .string x'.val] 68)) := hrunL
        clear hrunL mL hno hxA
        go_wp2_with (first
          | (at_builtin; refine wpList_snoc_chg _ rfl _ _ 40 72 Tryz.underlying40 rfl (pi + 1) (ws.heap.size + 1 + 1) _ (newC A acc) ⟨x'.n, x'.val, false⟩ rfl rfl (cells_chg3 ws _ _ ⟨x'.n, x'.val, false⟩ 72) (World.ownsRow.alloc (World.ownsRow.alloc (World.ownsRow.alloc o6 _) _) _) ?hb ?hl ?_; (case hb => simp; omega); (case hl => omega); intro v8 w8 o8 g8; rw [← HNC.out] at o8; have nb8 : ∀ k, k < pi + 1 → w8.heap[k]? = ws.heap[k]? := fun k hk => (g8.block k (by simp; omega) (fun e => by have := (World.ownsRow.lt o6 k e.symm).1; omega)).trans (Below.block ((((Q.refl ws).alloc _).alloc _).alloc _) k (by omega)); have m8 := ma6.same (nb8 p1 (by omega)); have q8 : Q w w8 := Below.grown (((q6.alloc _).alloc _).alloc _) g8 (by have := q6.size; simp; omega) (fun k hk => by have := (World.ownsRow.lt o6 k hk).1; omega); obtain ⟨w9, hrun9, m9, g9, -⟩ := m8.del hsd hxo.1 0)
          | (at_delete; refine wpList_run_del hrun9 rfl _ _ rfl rfl rfl ?_))
        (try simp only [Act.put, List.setIfInBounds_toArray, List.set_cons_zero, List.set_cons_succ])
        have q9 := g9.q q8 hw1
        have o9 := OwnH.kp2 o8 g9 (by omega)
        have lt8 := Nat.lt_of_lt_of_le lt6 (show ws.heap.size ≤ w8.heap.size by have := g8.size; simp at this; omega)
        have it9 := ((g9.block pi lt8 (by simp; omega)).trans (nb8 pi (Nat.lt_succ_self _))).trans hitH.out
        have mr9 := ((g9.block p2 (by omega) (by simp; omega)).trans (nb8 p2 (by omega))).trans hmr6
        go_roundw
        case rel => exact ⟨_, _, _, _, it9, Nat.le_refl _, mr9, m9, HC2.out, o9, q9, lt_of_block it9⟩
        case measure => simp only [leftW, it9, hit]; exact HMS.out
end Go.Proofs.YtbilnomafloopaaGreat

namespace Go.Proofs.YtbilnomafloopaaGreat
set_option maxRecDepth 100000
open Go.ChangeShapes Go.WideShapes Go.ChangeAt Go.RowKit
set_option linter.unusedVariables false
set_option linter.unusedSimpArgs false
theorem ieq_ne {x y : Itm} (h : x ≠ y) : (x.n ≠ y.n) ∨ (x.n = y.n ∧ x.val ≠ y.val) := by
  obtain ⟨a, b⟩ := x
  obtain ⟨a', b'⟩ := y
  simp only [ne_eq, Itm.mk.injEq, not_and] at h ⊢
  by_cases h1 : a = a'
  · exact .inr ⟨h1, h h1⟩
  · exact .inl h1
set_option maxHeartbeats 2000000 in
theorem ieq_any (a b : List Itm) (va vb : Value) (w : World) (hl : a.length ≤ 100000) (hlb : b.length ≤ 100000) (ha : Itms w w.heap.size va a) (hb : Itms w w.heap.size vb b) :
    Calls Tryz.prog 37 #[va, vb] w fun e w' => e = .returned (.bool (decide (a = b))) ∧ D w w' := by
  obtain ⟨R, hRe⟩ : ∃ R, R = decide (a = b) := ⟨_, rfl⟩
  rw [← hRe]
  have hR : (R = true ∧ a = b) ∨ (R = false ∧ a ≠ b) := by
    by_cases h : a = b
    · exact .inl ⟨by rw [hRe]; simp [h], h⟩
    · exact .inr ⟨by rw [hRe]; simp [h], h⟩
  clear hRe
  obtain ⟨A, c, rfl, -, -, -, hca⟩ := ha
  obtain ⟨B, c', rfl, -, -, -, hcb⟩ := hb
  have HA := Lib.hid hca
  have HB := Lib.hid hcb
  have HR := Lib.hid hR
  clear hca hcb hR
  by_cases he : a.length = b.length
  · have hen : ((a.length : Int) != (b.length : Int)) = false := by simp [he]
    have HE := Lib.hid he
    clear he
    go_enter Tryz.func37, Tryz.ntmps37
    go_wp2_with fail
    go_loopw [13] (fun I wr => ∃ i : Nat, i ≤ a.length ∧ I = .int .i64 i ∧ D w wr ∧ Hid (a.take i = b.take i)) (fun I _ => a.length - (intOf I).toNat)
    case atStart => exact ⟨0, Nat.zero_le _, rfl, D.refl _, Lib.hid (by simp)⟩
    case round =>
      obtain ⟨i, hil, rfl, d, HT⟩ := hrel
      by_cases hlt : i < a.length
      · have hlb2 : i < b.length := by rw [← HE.out]; exact hlt
        obtain ⟨p, rfl, hp, hat⟩ := HA.out i hlt
        obtain ⟨q, rfl, hq, hbt⟩ := HB.out i hlb2
        obtain ⟨m, rfl⟩ := d
        obtain ⟨c0, c1⟩ := hat
        obtain ⟨d0, d1⟩ := hbt
        have h2 : (i : Int) < (b.length : Int) := by omega
        by_cases hxy : a[i] = b[i]
        · have HT2 : Hid (a.take (i + 1) = b.take (i + 1)) := Lib.hid (by rw [List.take_succ_eq_append_getElem hlt, List.take_succ_eq_append_getElem hlb2, HT.out, hxy])
          rw [← hxy] at d0 d1
          obtain ⟨x, hx⟩ : ∃ x, x = a[i] := ⟨_, rfl⟩
          rw [← hx] at c0 c1 d0 d1
          clear hx hxy
          go_wp2_with fail
          go_region
          go_wp2
          go_roundw
          case rel => exact ⟨i + 1, by omega, by go_num, ⟨m + 1, by simp [Nat.add_comm]⟩, HT2⟩
          case measure => simp [intOf]; omega
        · have HV : Hid (R = false) := Lib.hid (by rcases HR.out with ⟨-, h⟩ | ⟨h, -⟩; exact absurd h (list_neG hlt hlb2 hxy); exact h)
          have hne := ieq_ne hxy
          obtain ⟨x, hx⟩ : ∃ x, x = a[i] := ⟨_, rfl⟩
          obtain ⟨y, hy⟩ : ∃ y, y = b[i] := ⟨_, rfl⟩
          rw [← hx] at c0 c1 hne
          rw [← hy] at d0 d1 hne
          clear hx hy hxy
          obtain ⟨xn, xv⟩ := x
          obtain ⟨yn, yv⟩ := y
          simp only at c0 c1 d0 d1 hne
          rcases hne with h | ⟨rfl, h⟩
          · have h' : ¬ (xn.toList = yn.toList) := fun e => h (bl_inj (by rw [← toList_bl, ← toList_bl, e]))
            clear h
            go_wp2_with fail
            go_region
            go_wp2
            go_ret
            exact ⟨ret_bool (by rw [HV.out]), (D.drewN ⟨m, rfl⟩ 1)⟩
          · have h' : ¬ (xv.toList = yv.toList) := fun e => h (bl_inj (by rw [← toList_bl, ← toList_bl, e]))
            clear h
            go_wp2_with fail
            go_region
            go_wp2
            go_ret
            exact ⟨ret_bool (by rw [HV.out]), (D.drewN ⟨m, rfl⟩ 1)⟩
      · have HV : Hid (R = true) := Lib.hid (by rcases HR.out with ⟨h, -⟩ | ⟨-, h⟩; exact h; exact absurd (by have := HT.out; rwa [List.take_of_length_le (by omega), List.take_of_length_le (by have := HE.out; omega)] at this) h)
        have h2 : ¬ (i : Int) < (a.length : Int) := by omega
        go_wp2
        go_ret
        exact ⟨ret_bool (by rw [HV.out]), d⟩
  · have HV : Hid (R = false) := Lib.hid (by rcases HR.out with ⟨-, h⟩ | ⟨h, -⟩; exact absurd (congrArg List.length h) he; exact h)
    have hen : ((a.length : Int) != (b.length : Int)) = true := by simp; omega
    clear he
    go_enter Tryz.func37, Tryz.ntmps37
    go_wp2
    go_ret
    exact ⟨ret_bool (by rw [HV.out]), D.refl _⟩
end Go.Proofs.YtbilnomafloopaaGreat

namespace Go.Proofs.YtbilnomafloopaaGreat
set_option maxRecDepth 100000
open Go.ChangeShapes Go.WideShapes Go.ChangeAt Go.RowKit
/-- The k lowest octets of a number. -/
def oct : Nat → Nat → List UInt8
  | _, 0 => []
  | n, k + 1 => (n % 256).toUInt8 :: oct (n / 256) k
theorem oct_length (n k : Nat) : (oct n k).length = k := by
  induction k generalizing n with
  | zero => rfl
  | succ k ih => simp [oct, ih]
theorem oct_snoc (n k : Nat) : oct n (k + 1) = oct n k ++ [(n / 256 ^ k % 256).toUInt8] := by
  induction k generalizing n with
  | zero => simp [oct]
  | succ k ih =>
    rw [oct, ih, oct, List.cons_append]
    congr 3
    rw [Nat.div_div_eq_div_mul, Nat.pow_succ, Nat.mul_comm]
/-- The number of octets. -/
def val : List UInt8 → Nat
  | [] => 0
  | c :: r => c.toNat + 256 * val r
theorem val_oct (n k : Nat) : val (oct n k) = n % 256 ^ k := by
  induction k generalizing n with
  | zero => simp [oct, val]; omega
  | succ k ih =>
    rw [oct, val, ih, Lib.toUInt8_toNat (by omega), Nat.pow_succ, Nat.mul_comm (256 ^ k) 256, Nat.mod_mul]
theorem val_lt (l : List UInt8) : val l < 256 ^ l.length := by
  induction l with
  | nil => simp [val]
  | cons c r ih =>
    rw [val, List.length_cons, Nat.pow_succ]
    have := UInt8.toNat_lt c
    omega
theorem val_snoc (l : List UInt8) (c : UInt8) : val (l ++ [c]) = val l + 256 ^ l.length * c.toNat := by
  induction l with
  | nil => simp [val]
  | cons d r ih =>
    rw [List.cons_append, val, ih, val, List.length_cons, Nat.pow_succ, Nat.mul_add, Nat.mul_comm (256 ^ r.length) 256, Nat.mul_assoc, Nat.add_assoc]
theorem val_lt64 (l : List UInt8) (h : l.length ≤ 8) : val l < 18446744073709551616 := by
  have h1 := val_lt l
  have h2 : 256 ^ l.length ≤ 256 ^ 8 := Nat.pow_le_pow_right (by decide) h
  have h3 : (256 : Nat) ^ 8 = 18446744073709551616 := by decide
  omega
theorem pow256 (k : Nat) : 256 ^ k = 2 ^ (8 * k) := by rw [Nat.pow_mul]
theorem val_or (l : List UInt8) (c : UInt8) : val l ||| c.toNat * 2 ^ (8 * l.length) = val (l ++ [c]) := by
  rw [val_snoc, pow256]
  have h := val_lt l
  rw [pow256] at h
  have := Nat.shiftLeft_add_eq_or_of_lt h c.toNat
  rw [Nat.shiftLeft_eq] at this
  rw [Nat.or_comm, ← this, Nat.add_comm, Nat.mul_comm]
theorem take_snocZ (s : ByteArray) (k : Nat) (h : k < s.size) : (bl s).take (k + 1) = (bl s).take k ++ [s[k]] := by
  rw [List.take_succ_eq_append_getElem (by rw [bl_length]; exact h)]; rfl
theorem take_length (s : ByteArray) (k : Nat) (h : k ≤ s.size) : ((bl s).take k).length = k := by
  rw [List.length_take, bl_length]; omega
/-- Two numbers with the same octets. -/
theorem oct_inj {a b k : Nat} (ha : a < 256 ^ k) (hb : b < 256 ^ k) (h : oct a k = oct b k) : a = b := by
  have := congrArg val h
  rw [val_oct, val_oct, Nat.mod_eq_of_lt ha, Nat.mod_eq_of_lt hb] at this
  exact this
end Go.Proofs.YtbilnomafloopaaGreat

namespace Go.Proofs.YtbilnomafloopaaGreat
set_option maxRecDepth 100000
open Go.ChangeShapes Go.WideShapes Go.ChangeAt Go.RowKit
set_option linter.unusedVariables false
theorem or_step {s : ByteArray} {m j : Nat} (hm : m = val ((bl s).take j)) (hj : j < s.size) (h8 : j < 8) :
    bits BinOp.or IntKind.u64 (m : Int) (IntKind.u64.wrap (IntKind.u64.wrap (s[j].toNat : Int) * 2 ^ (8 * j))) = ((val ((bl s).take (j + 1)) : Nat) : Int) := by
  have hc := UInt8.toNat_lt s[j]
  have hl := take_length s j (by omega)
  have hp : s[j].toNat * 2 ^ (8 * j) < 18446744073709551616 := by
    have h1 : (2 : Nat) ^ (8 * j) ≤ 2 ^ 56 := Nat.pow_le_pow_right (by decide) (by omega)
    have h2 : s[j].toNat * 2 ^ (8 * j) ≤ 255 * 2 ^ 56 := Nat.mul_le_mul (by omega) h1
    have h3 : 255 * (2 : Nat) ^ 56 < 18446744073709551616 := by decide
    omega
  rw [IntWalk.u64_in (s[j].toNat : Int) (by omega)]
  have e : (s[j].toNat : Int) * 2 ^ (8 * j) = ((s[j].toNat * 2 ^ (8 * j) : Nat) : Int) := by push_cast; rfl
  rw [e, IntWalk.u64_in _ (by omega), bits_or_u64_nat _ _ (by rw [hm]; exact val_lt64 _ (by omega)) hp, hm, take_snocZ s j hj]
  have := val_or ((bl s).take j) s[j]
  rw [hl] at this
  rw [this]
set_option maxHeartbeats 1000000 in
theorem cut_anyZ (s : ByteArray) (k : Nat) (w : World) (hs : s.size ≤ 1000000000) (hk : k ≤ s.size) (h8 : k ≤ 8) :
    Calls Tryz.prog 175 #[.string s, .int .i64 k] w fun e w' => e = .returned (.tuple #[.int .u64 (val ((bl s).take k) : Nat), .string (s.extract k s.size), .int .i64 0]) ∧ Q w w' := by
  go_enter Tryz.func175, Tryz.ntmps175
  go_wp2
  go_loop [7, 14] (fun M i => ∃ j m : Nat, j ≤ k ∧ m < 18446744073709551616 ∧ i = .int .i64 j ∧ M = .int .u64 m ∧ Hid (m = val ((bl s).take j))) (fun _ i => k - (intOf i).toNat)
  case atStart => exact ⟨0, 0, Nat.zero_le _, by omega, rfl, rfl, Lib.hid (by simp [val])⟩
  case round =>
    obtain ⟨j, m, hj, hm, rfl, rfl, HM⟩ := hrel
    by_cases hlt : j < k
    · have hjs : j < s.size := by omega
      have HO := Lib.hid (or_step HM.out hjs (by omega))
      go_wp2
      go_round
      case rel => exact ⟨j + 1, _, by omega, val_lt64 ((bl s).take (j + 1)) (by rw [take_length s _ (by omega)]; omega), by go_num, by rw [HO.out], Lib.hid rfl⟩
      case measure => simp [intOf]; omega
    · obtain rfl : j = k := by omega
      go_wp2
      go_region
      go_wp2
      go_ret3
      exact ⟨by rw [HM.out]; rfl, (Q.refl _).drew⟩
set_option maxHeartbeats 1000000 in
theorem cut_short (s : ByteArray) (k : Nat) (w : World) (hs : s.size ≤ 1000000000) (hk : s.size < k) (h8 : k ≤ 8) :
    Calls Tryz.prog 175 #[.string s, .int .i64 k] w fun e w' => e = .returned (.tuple #[.int .u64 0, .string ⟨#[]⟩, .int .i64 3]) ∧ w = w' := by
  go_enter Tryz.func175, Tryz.ntmps175
  go_wp2
  go_ret3
  exact ⟨rfl, rfl⟩
/-- The count with which octets begin. -/
def cntZ (s : ByteArray) : Nat := val ((bl s).take 2)
theorem cnt_lt (s : ByteArray) : cntZ s < 65536 := by
  have h1 := val_lt ((bl s).take 2)
  have h2 : 256 ^ ((bl s).take 2).length ≤ 256 ^ 2 := Nat.pow_le_pow_right (by decide) (by rw [List.length_take]; omega)
  unfold cntZ; omega
/-- What is taken as a count: it, what is behind, and the error's number. -/
def tc (s : ByteArray) : Nat × ByteArray × Nat := if s.size < 2 then (0, ⟨#[]⟩, 3) else if 4000 < cntZ s then (0, ⟨#[]⟩, 2) else (cntZ s, s.extract 2 s.size, 0)
set_option maxHeartbeats 1000000 in
theorem cutCount_any (s : ByteArray) (w : World) (hs : s.size ≤ 1000000000) {n : Nat} {b : ByteArray} {f : Nat} (h : tc s = (n, b, f)) :
    Calls Tryz.prog 198 #[.string s] w fun e w' => e = .returned (.tuple #[.int .i64 n, .string b, .int .i64 f]) ∧ Q w w' := by
  unfold tc at h
  split at h
  · rename_i h2
    obtain ⟨rfl, rfl, rfl⟩ : 0 = n ∧ (⟨#[]⟩ : ByteArray) = b ∧ 3 = f := by simpa using h
    clear h
    go_enter Tryz.func198, Tryz.ntmps198
    go_wp2_with fail
    refine (cut_short s 2 w hs h2 (by omega)).mono ?_
    rintro e w1 ⟨rfl, rfl⟩
    go_wp2
    go_ret3
    exact ⟨rfl, Q.refl _⟩
  · rename_i h2
    have hc := cnt_lt s
    have HC := Lib.hid (cut_anyZ s 2 w hs (by omega) (by omega))
    have e : val ((bl s).take 2) = cntZ s := rfl
    rw [e] at HC
    clear e
    split at h
    · rename_i h4
      obtain ⟨rfl, rfl, rfl⟩ : 0 = n ∧ (⟨#[]⟩ : ByteArray) = b ∧ 2 = f := by simpa using h
      clear h
      generalize cntZ s = c at *
      go_enter Tryz.func198, Tryz.ntmps198
      go_wp2_with fail
      refine HC.out.mono ?_
      rintro e w1 ⟨rfl, q⟩
      go_wp2
      go_ret3
      exact ⟨rfl, q⟩
    · rename_i h4
      obtain ⟨rfl, rfl, rfl⟩ : cntZ s = n ∧ s.extract 2 s.size = b ∧ 0 = f := by simpa using h
      clear h
      generalize cntZ s = c at *
      go_enter Tryz.func198, Tryz.ntmps198
      go_wp2_with fail
      refine HC.out.mono ?_
      rintro e w1 ⟨rfl, q⟩
      go_wp2
      go_ret3
      exact ⟨rfl, q⟩
/-- What is taken as a number. -/
def tn (s : ByteArray) : Nat × ByteArray × Nat := if s.size < 8 then (0, ⟨#[]⟩, 3) else (val ((bl s).take 8), s.extract 8 s.size, 0)
set_option maxHeartbeats 1000000 in
theorem takeNum_any (s : ByteArray) (w : World) (hs : s.size ≤ 1000000000) {n : Nat} {b : ByteArray} {f : Nat} (h : tn s = (n, b, f)) :
    Calls Tryz.prog 120 #[.string s] w fun e w' => e = .returned (.tuple #[.int .u64 n, .string b, .int .i64 f]) ∧ Q w w' := by
  unfold tn at h
  split at h
  · rename_i h2
    obtain ⟨rfl, rfl, rfl⟩ : 0 = n ∧ (⟨#[]⟩ : ByteArray) = b ∧ 3 = f := by simpa using h
    clear h
    go_enter Tryz.func120, Tryz.ntmps120
    go_wp2_with fail
    refine (cut_short s 8 w hs h2 (by omega)).mono ?_
    rintro e w1 ⟨rfl, rfl⟩
    go_wp2
    go_ret3
    exact ⟨rfl, Q.refl _⟩
  · rename_i h2
    have HC := Lib.hid (cut_anyZ s 8 w hs (by omega) (by omega))
    obtain ⟨rfl, rfl, rfl⟩ : val ((bl s).take 8) = n ∧ s.extract 8 s.size = b ∧ 0 = f := by simpa using h
    clear h
    generalize val ((bl s).take 8) = c at *
    go_enter Tryz.func120, Tryz.ntmps120
    go_wp2_with fail
    refine HC.out.mono ?_
    rintro e w1 ⟨rfl, q⟩
    go_wp2
    go_ret3
    exact ⟨rfl, q⟩
/-- What is taken as a text: it, what is behind, and the error's number. -/
def tt (s : ByteArray) : ByteArray × ByteArray × Nat :=
  if s.size < 2 then (⟨#[]⟩, ⟨#[]⟩, 3) else if 4000 < cntZ s then (⟨#[]⟩, ⟨#[]⟩, 2) else if s.size < 2 + cntZ s then (⟨#[]⟩, ⟨#[]⟩, 3) else (s.extract 2 (2 + cntZ s), s.extract (2 + cntZ s) s.size, 0)
set_option maxHeartbeats 1000000 in
theorem takeText_any (s : ByteArray) (w : World) (hs : s.size ≤ 1000000000) {x b : ByteArray} {f : Nat} (h : tt s = (x, b, f)) :
    Calls Tryz.prog 200 #[.string s] w fun e w' => e = .returned (.tuple #[.string x, .string b, .int .i64 f]) ∧ Q w w' := by
  unfold tt at h
  split at h
  · rename_i h2
    obtain ⟨rfl, rfl, rfl⟩ : (⟨#[]⟩ : ByteArray) = x ∧ (⟨#[]⟩ : ByteArray) = b ∧ 3 = f := by simpa using h
    clear h
    have HT : Hid (tc s = (0, ⟨#[]⟩, 3)) := Lib.hid (by rw [tc, if_pos h2])
    go_enter Tryz.func200, Tryz.ntmps200
    go_wp2_with fail
    refine (cutCount_any s w hs HT.out).mono ?_
    rintro e w1 ⟨rfl, q⟩
    go_wp2
    go_ret3
    exact ⟨rfl, q⟩
  · rename_i h2
    split at h
    · rename_i h3
      obtain ⟨rfl, rfl, rfl⟩ : (⟨#[]⟩ : ByteArray) = x ∧ (⟨#[]⟩ : ByteArray) = b ∧ 2 = f := by simpa using h
      clear h
      have HT : Hid (tc s = (0, ⟨#[]⟩, 2)) := Lib.hid (by rw [tc, if_neg h2, if_pos h3])
      go_enter Tryz.func200, Tryz.ntmps200
      go_wp2_with fail
      refine (cutCount_any s w hs HT.out).mono ?_
      rintro e w1 ⟨rfl, q⟩
      go_wp2
      go_ret3
      exact ⟨rfl, q⟩
    · rename_i h3
      have HT : Hid (tc s = (cntZ s, s.extract 2 s.size, 0)) := Lib.hid (by rw [tc, if_neg h2, if_neg h3])
      have hz : (s.extract 2 s.size).size = s.size - 2 := size_cut s (Nat.le_refl _)
      split at h
      · rename_i h4
        obtain ⟨rfl, rfl, rfl⟩ : (⟨#[]⟩ : ByteArray) = x ∧ (⟨#[]⟩ : ByteArray) = b ∧ 3 = f := by simpa using h
        clear h
        generalize cntZ s = c at *
        obtain ⟨r, hr⟩ : ∃ r, r = s.extract 2 s.size := ⟨_, rfl⟩
        rw [← hr] at HT hz
        clear hr
        have hz' : r.size < c := by omega
        clear hz
        go_enter Tryz.func200, Tryz.ntmps200
        go_wp2_with fail
        refine (cutCount_any s w hs HT.out).mono ?_
        rintro e w1 ⟨rfl, q⟩
        go_wp2
        go_ret3
        exact ⟨rfl, q⟩
      · rename_i h4
        have e1 : s.extract 2 (2 + cntZ s) = (s.extract 2 s.size).extract 0 (cntZ s) := by rw [cut_cut, Nat.min_eq_left (by omega)]
        have e2 : s.extract (2 + cntZ s) s.size = (s.extract 2 s.size).extract (cntZ s) (s.extract 2 s.size).size := by rw [cut_cut, hz]; congr 1; omega
        rw [e1, e2] at h
        obtain ⟨r, hr⟩ : ∃ r, r = s.extract 2 s.size := ⟨_, rfl⟩
        rw [← hr] at HT hz h
        clear hr e1 e2
        obtain ⟨rfl, rfl, rfl⟩ : r.extract 0 (cntZ s) = x ∧ r.extract (cntZ s) r.size = b ∧ 0 = f := by simpa using h
        clear h
        generalize cntZ s = c at *
        have hz' : c ≤ r.size := by omega
        have hz2 : r.size ≤ 1000000000 := by omega
        clear hz
        go_enter Tryz.func200, Tryz.ntmps200
        go_wp2_with fail
        refine (cutCount_any s w hs HT.out).mono ?_
        rintro e w1 ⟨rfl, q⟩
        go_wp2
        go_region
        go_wp2
        go_ret3
        exact ⟨rfl, q.drew⟩
end Go.Proofs.YtbilnomafloopaaGreat

namespace Go.Proofs.YtbilnomafloopaaGreat
set_option maxRecDepth 100000
open Go.ChangeShapes Go.WideShapes Go.ChangeAt Go.RowKit
set_option linter.unusedVariables false
theorem info_u8Z : (Tryz.prog.info? 5).map (fun i => (i.zero, i.size, i.bytes)) = some (some (.int .u8 0), 1, 1) := by kernel_rfl
/-- v is a row of the call's own, from block base on, whose octets are l. -/
def OwnZ (base : Nat) (w : World) (v : Value) (l : List UInt8) : Prop := w.ownsRow base 5 1 v l.length (Lib.byteCells l)
theorem OwnZ.nil (base : Nat) (w : World) : OwnZ base w (.slice none 0 0) [] := World.ownsRow_nil w _ _ _
theorem byte_one (l : List UInt8) (n : Nat) : Lib.byteCells l ++ [Value.int .u8 ((n % 256 : Nat) : Int)] = Lib.byteCells (l ++ [(n % 256).toUInt8]) :=
  (Lib.byteCells_snoc l (by omega)).symm
theorem cell_oneZ (w : World) (x : Value) (t : TypeId) : ∀ j u, [x][j]? = some u → (w.alloc (.cells #[x] t)).cell? ((⟨w.heap.size, 0, none⟩ : Addr).add j) = some u := by
  intro j u hj
  match j, hj with
  | 0, hj => simp at hj; subst hj; simp [Addr.add]
theorem lay_step {base : Nat} {w wr w1 : World} {v v' : Value} {l : List UInt8} {n j m : Nat} (hm : m = n / 256 ^ j) (hb : base ≤ w.heap.size)
    (hown : OwnZ base wr v (l ++ oct n j)) (hbel : Below base w wr) {o : Obj}
    (h1 : w1.ownsRow base 5 1 v' ((l ++ oct n j).length + 1) (Lib.byteCells (l ++ oct n j) ++ [Value.int .u8 ((m : Int) % 256)])) (h2 : (wr.alloc o).grownBy w1 v.ownBlock) :
    OwnZ base w1 v' (l ++ oct n (j + 1)) ∧ Below base w w1 := by
  have hs : base ≤ wr.heap.size := Nat.le_trans hb hbel.size
  refine ⟨?_, (hbel.alloc hs o).grown h2 (by simp; omega) (fun k hk => (World.ownsRow.lt hown k hk).1)⟩
  unfold OwnZ
  rw [oct_snoc, ← hm, ← List.append_assoc, ← byte_one, List.length_append, List.length_singleton]
  have e : (m : Int) % 256 = ((m % 256 : Nat) : Int) := by omega
  rw [e] at h1
  exact h1
set_option maxHeartbeats 1000000 in
theorem lay_any (base : Nat) (v : Value) (l : List UInt8) (n k : Nat) (w : World) (hb : base ≤ w.heap.size) (hl : l.length ≤ 1000000000) (hn : n < 18446744073709551616) (hk : k ≤ 8) (ho : OwnZ base w v l) :
    Calls Tryz.prog 67 #[v, .int .u64 n, .int .i64 k] w fun e w' => ∃ v', e = .returned v' ∧ OwnZ base w' v' (l ++ oct n k) ∧ Below base w w' := by
  obtain ⟨i0, hi, hz0, hz1, hz2⟩ := info_parts info_u8Z
  go_enter Tryz.func67, Tryz.ntmps67
  go_wp2
  go_loopw [0, 1, 8] (fun v' M i wr => ∃ j m : Nat, j ≤ k ∧ m < 18446744073709551616 ∧ i = .int .i64 j ∧ M = .int .u64 m ∧ Hid (m = n / 256 ^ j) ∧ OwnZ base wr v' (l ++ oct n j) ∧ Below base w wr) (fun _ _ i _ => k - (intOf i).toNat)
  case atStart => exact ⟨0, n, Nat.zero_le _, hn, rfl, rfl, Lib.hid (by simp), by simpa [oct] using ho, Below.refl _ _⟩
  case round =>
    obtain ⟨j, m, hj, hm, rfl, rfl, HM, hown, hbel⟩ := hrel
    by_cases hlt : j < k
    · have hlen : (l ++ oct n j).length ≤ 1000000008 := by rw [List.length_append, oct_length]; omega
      have hs : base ≤ wr.heap.size := Nat.le_trans hb hbel.size
      go_wp2_with (first | (at_builtin; refine wpList_append_own _ rfl _ _ 124 rfl base 5 i0 (.int .u8 0) 1 1 Tryz.underlying124 hi hz0 hz1 hz2 rfl (by decide) _ _ _ rfl (World.ownsRow.alloc hown _) ⟨wr.heap.size, 0, none⟩ 1 1 [.int .u8 ((m : Int) % 256)] rfl rfl (cell_oneZ _ _ _) (by intro u hu; simp at hu; subst hu; rfl) (by unfold maxLen; omega) (by omega) (by simp; omega) ?_; intro v1 w1 h1 h2 _; have R := lay_step HM.out hb hown hbel h1 h2; clear h1 h2))
      go_roundw
      case rel => exact ⟨j + 1, m / 256, by omega, by omega, by go_num, by go_num, Lib.hid (by rw [HM.out, Nat.div_div_eq_div_mul, Nat.pow_succ]), R.1, R.2⟩
      case measure => simp [intOf]; omega
    · obtain rfl : j = k := by omega
      go_wp2
      go_ret
      exact ⟨_, rfl, hown, hbel⟩
theorem conv_ownZ {base : Nat} {w : World} {v : Value} {l : List UInt8} (h : OwnZ base w v l) (h0 : 0 < l.length) : (convert 124 9 v).run Tryz.prog w = .ok (.string (mk l)) w := by
  rcases h.2 with ⟨-, h1⟩ | ⟨g, cap, cur, rfl, -, -, -, -, -, -⟩
  · omega
  · exact run_convert_bytes_back (P := Tryz.prog) w 124 9 5 ⟨g, 0, none⟩ cap l Tryz.underlying124 Tryz.underlying5 Tryz.underlying9 (fun j hj => World.ownsRow.cells (g := g) h rfl j _ (by simp [Lib.byteCells, hj]))
set_option maxHeartbeats 1000000 in
theorem num_any (n : Nat) (w : World) (hn : n < 18446744073709551616) :
    Calls Tryz.prog 32 #[.int .u64 n] w fun e w' => e = .returned (.string (mk (oct n 8))) ∧ Q w w' := by
  go_enter Tryz.func32, Tryz.ntmps32
  go_wp2_with fail
  refine (lay_any w.heap.size _ [] n 8 w (Nat.le_refl _) (by simp) hn (by omega) (OwnZ.nil _ _)).mono ?_
  rintro e w1 ⟨v1, rfl, ho, hb⟩
  rw [List.nil_append] at ho
  have hc := conv_ownZ ho (by rw [oct_length]; omega)
  go_wp2
  go_ret
  exact ⟨rfl, hb⟩
/-- A text's octets. -/
def tx (s : ByteArray) : List UInt8 := oct s.size 2 ++ bl s
theorem tx_length (s : ByteArray) : (tx s).length = 2 + s.size := by rw [tx, List.length_append, oct_length, bl_length]
set_option maxHeartbeats 1000000 in
theorem layText_any (base : Nat) (v : Value) (l : List UInt8) (s : ByteArray) (w : World) (hb : base ≤ w.heap.size) (hl : l.length ≤ 100000000) (hs : s.size ≤ 5000) (ho : OwnZ base w v l) :
    Calls Tryz.prog 109 #[v, .string s] w fun e w' => ∃ v', e = .returned v' ∧ OwnZ base w' v' (l ++ tx s) ∧ Below base w w' := by
  obtain ⟨i0, hi, hz0, hz1, hz2⟩ := info_parts info_u8Z
  go_enter Tryz.func109, Tryz.ntmps109
  go_wp2_with fail
  refine (lay_any base v l s.size 2 w hb (by omega) (by omega) (by omega) ho).mono ?_
  rintro e w1 ⟨v1, rfl, ho1, hb1⟩
  have hlen : (l ++ oct s.size 2).length ≤ 100000002 := by rw [List.length_append, oct_length]; omega
  have hs1 : base ≤ w1.heap.size := Nat.le_trans hb hb1.size
  refine Hid.out ?_
  refine Lib.hid ?_
  go_wp2_with (first | (at_builtin; refine Lib.wpList_append_own_string _ rfl _ _ 124 9 rfl base 5 i0 Tryz.underlying124 Tryz.underlying9 hi hz0 hz1 hz2 _ _ _ rfl ho1 s rfl (by unfold maxLen; omega) (by omega) hs1 ?_; intro v2 w2 h1 h2 _))
  go_ret
  refine ⟨v2, rfl, ?_, hb1.grown h2 hs1 (fun k hk => (World.ownsRow.lt ho1 k hk).1)⟩
  unfold OwnZ
  rw [tx, ← List.append_assoc, List.length_append (bs := bl s), bl_length, Lib.byteCells_append]
  exact h1
/-- A list's octets, and whether it may be. -/
def lst (l : List ByteArray) : List UInt8 := oct l.length 2 ++ l.flatMap tx
def okLZ (l : List ByteArray) : Bool := decide (l.length ≤ 4000) && l.all fun s => decide (s.size ≤ 4000)
theorem okL_iffZ {l : List ByteArray} : okLZ l = true ↔ l.length ≤ 4000 ∧ ∀ s ∈ l, s.size ≤ 4000 := by simp [okLZ]
theorem flat_length (l : List ByteArray) (h : ∀ s ∈ l, s.size ≤ 5000) : (l.flatMap tx).length ≤ l.length * 5002 := by
  induction l with
  | nil => simp
  | cons s r ih =>
    rw [List.flatMap_cons, List.length_append, tx_length, List.length_cons]
    have := ih fun x hx => h x (List.mem_cons_of_mem _ hx)
    have := h s (List.mem_cons_self ..)
    omega
theorem take_flat (l : List ByteArray) (j : Nat) (h : j < l.length) : oct l.length 2 ++ (l.take j).flatMap tx ++ tx l[j] = oct l.length 2 ++ (l.take (j + 1)).flatMap tx := by
  rw [List.take_succ_eq_append_getElem h, List.flatMap_append, List.append_assoc]; simp
/-- What List tells. -/
def lstV (l : List ByteArray) : Value := if okLZ l then .tuple #[.string (mk (lst l)), .int .i64 0] else .tuple #[.string ⟨#[]⟩, .int .i64 6]
theorem lstV_yes {l : List ByteArray} (h : okLZ l = true) : lstV l = .tuple #[.string (mk (lst l)), .int .i64 0] := by rw [lstV, if_pos h]
theorem lstV_no {l : List ByteArray} (h : okLZ l = false) : lstV l = .tuple #[.string ⟨#[]⟩, .int .i64 6] := by rw [lstV, h]; rfl
theorem okL_long {l : List ByteArray} (h : 4000 < l.length) : okLZ l = false := by
  have : ¬ l.length ≤ 4000 := by omega
  simp [okLZ, this]
theorem okL_big {l : List ByteArray} {j : Nat} (h : j < l.length) (k : 4000 < l[j].size) : okLZ l = false := by
  have : ¬ okLZ l = true := fun e => by have := (okL_iffZ.1 e).2 l[j] (List.getElem_mem h); omega
  simpa using this
theorem okTo_endZ {l : List ByteArray} (h : l.length ≤ 4000) (k : ∀ s ∈ l.take l.length, s.size ≤ 4000) : okLZ l = true := okL_iffZ.2 ⟨h, by simpa using k⟩
theorem okTo_step {l : List ByteArray} {j : Nat} (h : j < l.length) (k : ∀ s ∈ l.take j, s.size ≤ 4000) (q : l[j].size ≤ 4000) : ∀ s ∈ l.take (j + 1), s.size ≤ 4000 := by
  rw [List.take_succ_eq_append_getElem h]
  intro s hs
  rcases List.mem_append.1 hs with a | a
  · exact k s a
  · rw [List.mem_singleton.1 a]; exact q
set_option maxHeartbeats 1000000 in
theorem list_any (l : List ByteArray) (v : Value) (w : World) (hl : l.length ≤ 1000000) (hs : ∀ s ∈ l, s.size ≤ 5000) (ht : Txts w w.heap.size v l) :
    Calls Tryz.prog 66 #[v] w fun e w' => e = .returned (lstV l) ∧ Q w w' := by
  obtain ⟨A, c, rfl, hcells⟩ := ht
  have HS := Lib.hid hs
  have HC := Lib.hid hcells
  clear hs hcells
  by_cases hlong : 4000 < l.length
  · rw [lstV_no (okL_long hlong)]
    go_enter Tryz.func66, Tryz.ntmps66
    go_wp2
    go_ret2
    exact ⟨rfl, Q.refl _⟩
  · go_enter Tryz.func66, Tryz.ntmps66
    go_wp2_with fail
    refine (lay_any w.heap.size _ [] l.length 2 w (Nat.le_refl _) (by simp) (by omega) (by omega) (OwnZ.nil _ _)).mono ?_
    rintro e w1 ⟨v1, rfl, ho, hb⟩
    go_wp2_with fail
    go_loopw [4, 16] (fun v' i wr => ∃ j : Nat, j ≤ l.length ∧ i = .int .i64 j ∧ OwnZ w.heap.size wr v' (oct l.length 2 ++ (l.take j).flatMap tx) ∧ Below w.heap.size w wr ∧ Hid (∀ s ∈ l.take j, s.size ≤ 4000)) (fun _ i _ => l.length - (intOf i).toNat)
    case atStart => exact ⟨0, Nat.zero_le _, rfl, by simpa using ho, hb, Lib.hid (by simp)⟩
    case round =>
      obtain ⟨j, hj, rfl, hown, hbel, HK⟩ := hrel
      by_cases hlt : j < l.length
      · obtain ⟨a, rfl, ha, hcell⟩ := HC.out j hlt
        have hcell' := (hbel.cell (p := a.add j) (by rw [add_block]; exact ha)).trans hcell
        clear hcell
        obtain ⟨s, hsj⟩ : ∃ s, s = l[j] := ⟨_, rfl⟩
        rw [← hsj] at hcell'
        have h5 : s.size ≤ 5000 := by rw [hsj]; exact HS.out _ (List.getElem_mem hlt)
        have HJ := Lib.hid hsj
        clear hsj
        by_cases hbig : 4000 < s.size
        · have HV := Lib.hid (lstV_no (okL_big hlt (by rw [← HJ.out]; exact hbig)))
          go_wp2_with fail
          go_ret2
          exact ⟨by rw [HV.out]; rfl, hbel⟩
        · have hlen : (oct l.length 2 ++ (l.take j).flatMap tx).length ≤ 100000000 := by
            rw [List.length_append, oct_length]
            have h1 := flat_length (l.take j) (fun x hx => HS.out x (List.mem_of_mem_take hx))
            have h2 : (l.take j).length ≤ 4000 := by rw [List.length_take]; omega
            omega
          go_wp2_with fail
          refine (layText_any w.heap.size _ _ s wr hbel.size hlen h5 hown).mono ?_
          rintro e w2 ⟨v2, rfl, ho2, hb2⟩
          have e1 : oct l.length 2 ++ (l.take j).flatMap tx ++ tx s = oct l.length 2 ++ (l.take (j + 1)).flatMap tx := by rw [HJ.out]; exact take_flat l j hlt
          rw [e1] at ho2
          clear e1
          go_wp2_with fail
          go_roundw
          case rel => exact ⟨j + 1, by omega, by go_num, ho2, hbel.trans hb2, Lib.hid (okTo_step hlt HK.out (by rw [← HJ.out]; omega))⟩
          case measure => simp [intOf]; omega
      · obtain rfl : j = l.length := by omega
        have HV := Lib.hid (lstV_yes (okTo_endZ (by omega) HK.out))
        rw [List.take_length] at hown
        have hc := conv_ownZ hown (by rw [List.length_append, oct_length]; omega)
        go_wp2
        go_ret2
        exact ⟨by rw [HV.out]; rfl, hbel⟩
end Go.Proofs.YtbilnomafloopaaGreat

