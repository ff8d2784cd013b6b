/-
  Contract of the program's Diff.
-/
import Derived.Test.YtbilnomafloopaaGreatIWith
import Derived.Maps.RangeWalk
namespace Go.Proofs.YtbilnomafloopaaGreat
set_option maxRecDepth 100000
open Go.ChangeShapes Go.WideShapes Go.ChangeAt Go.RowKit
open Go.ChangeMaps (setBlock)
set_option linter.unusedVariables false
set_option linter.unusedSimpArgs false

/-- What is told of the items that have come, of which those of A need not be told. -/
def newC (A acc : List Itm) : List Chg := (acc.filter fun x => decide (x ∉ A)).map fun x => ⟨x.n, x.val, false⟩
def goneC (acc : List Itm) : List Chg := acc.map fun y => ⟨y.n, ⟨#[]⟩, true⟩
theorem newC_no {A acc : List Itm} {x : Itm} (h : x ∈ A) : newC A (acc ++ [x]) = newC A acc := by
  unfold newC; rw [List.filter_append]; simp [h]
theorem newC_yes {A acc : List Itm} {x : Itm} (h : x ∉ A) : newC A (acc ++ [x]) = newC A acc ++ [⟨x.n, x.val, false⟩] := by
  unfold newC; rw [List.filter_append, List.map_append]; simp [h]
theorem newC_len (A acc : List Itm) : (newC A acc).length ≤ acc.length := by unfold newC; rw [List.length_map]; exact List.length_filter_le _ _
theorem goneC_snoc (acc : List Itm) (x : Itm) : goneC (acc ++ [x]) = goneC acc ++ [⟨x.n, ⟨#[]⟩, true⟩] := by unfold goneC; simp
theorem goneC_len (acc : List Itm) : (goneC acc).length = acc.length := by unfold goneC; simp
def DifI (A : List Itm) (es : Array MapEntry) (seen : Array Nat) (acc Ad : List Itm) : Prop :=
  ColI es seen acc ∧ Asc Itm.n Ad ∧ ∀ y, y ∈ Ad ↔ y ∈ A ∧ ∀ x ∈ acc, x.n ≠ y.n
theorem DifI.nil {A : List Itm} (hA : Asc Itm.n A) (es : Array MapEntry) : DifI A es #[] [] A := ⟨ColI.nil es, hA, fun y => by simp⟩
theorem DifI.step {A : List Itm} {es : Array MapEntry} {clock : Nat} {B : List Itm} {seen : Array Nat} {acc Ad : List Itm} (h : DifI A es seen acc Ad) (hm : MI es.toList clock B) {e : MapEntry} (he : e ∈ (leftOf es seen).toList) {x : Itm} (hk : e.key = .string x.n) (hv : e.val = itm x) :
    DifI A es (seen.push e.born) (acc ++ [x]) (Ad.filter (fun y => decide (y.n ≠ x.n))) := by
  refine ⟨h.1.step hm he hk hv, h.2.1.filter _, fun y => ?_⟩
  rw [List.mem_filter, h.2.2 y]
  simp only [decide_eq_true_eq, List.mem_append, List.mem_singleton]
  constructor
  · rintro ⟨⟨h1, h2⟩, h3⟩
    refine ⟨h1, fun z hz => ?_⟩
    rcases hz with hz | rfl
    · exact h2 z hz
    · exact fun e => h3 e.symm
  · rintro ⟨h1, h2⟩
    exact ⟨⟨h1, fun z hz => h2 z (.inl hz)⟩, fun e => h2 x (.inr rfl) e.symm⟩
/-- A name that has not come yet. -/
theorem ColI.fresh {es : Array MapEntry} {clock : Nat} {B : List Itm} {seen : Array Nat} {acc : List Itm} (h : ColI es seen acc) (hm : MI es.toList clock B) {e : MapEntry} (he : e ∈ (leftOf es seen).toList) {x : Itm} (hk : e.key = .string x.n) : ∀ z ∈ acc, z.n ≠ x.n := by
  intro z hz q
  obtain ⟨m1, m2⟩ := mem_left he
  obtain ⟨f, hf, s, k, -⟩ := h.2.1 z hz
  have : f = e := pair_one hm.2.2.1 hf m1 (by rw [k, hk, q])
  subst this
  rw [m2] at s; cases s
theorem sorted_asc {α : Type} {f : α → ByteArray} {acc L' : List α} (hp : L'.Perm acc) (hs : L'.Pairwise (fun x y => ltB (f y) (f x) = false)) (hd : acc.Pairwise (fun x y => f x ≠ f y)) : Asc f L' := by
  have hd2 : L'.Pairwise (fun x y => f x ≠ f y) := (hp.pairwise_iff (fun h => fun e => h e.symm)).2 hd
  exact (hd2.and hs).imp fun h => ltB_total (fun e => h.1 e.symm) h.2
theorem DifI.done {A B : List Itm} (hA : Asc Itm.n A) (hB : Asc Itm.n B) {es : Array MapEntry} {seen : Array Nat} {acc Ad accA : List Itm} (h : DifI A es seen acc Ad) (hb : ∀ x, x ∈ acc ↔ x ∈ B) (ha : ∀ x, x ∈ accA ↔ x ∈ Ad) (hd : accA.Pairwise (fun x y => x.n ≠ y.n))
    {L' : List Chg} (hp : L'.Perm (newC A acc ++ goneC accA)) (hs : L'.Pairwise (fun x y => ltB y.n x.n = false)) : DiffIs A B L' := by
  refine ⟨sorted_asc hp hs ?_, fun c => (hp.mem_iff).trans ?_⟩
  · rw [List.pairwise_append]
    refine ⟨?_, ?_, fun a ha2 b hb2 => ?_⟩
    · unfold newC
      rw [List.pairwise_map]
      exact List.Pairwise.filter _ h.1.2.2.2
    · unfold goneC
      rw [List.pairwise_map]
      exact hd
    · obtain ⟨x, hx, rfl⟩ := List.mem_map.1 ha2
      obtain ⟨y, hy, rfl⟩ := List.mem_map.1 hb2
      exact ((h.2.2 y).1 ((ha y).1 hy)).2 x (List.mem_filter.1 hx).1
  · rw [List.mem_append]
    unfold newC goneC DiffC
    constructor
    · rintro (h1 | h1)
      · obtain ⟨x, hx, rfl⟩ := List.mem_map.1 h1
        obtain ⟨hx1, hx2⟩ := List.mem_filter.1 hx
        exact .inl ⟨x, (hb x).1 hx1, by simpa using hx2, rfl⟩
      · obtain ⟨y, hy, rfl⟩ := List.mem_map.1 h1
        obtain ⟨k1, k2⟩ := (h.2.2 y).1 ((ha y).1 hy)
        exact .inr ⟨y, k1, fun x hx => k2 x ((hb x).2 hx), rfl⟩
    · rintro (⟨x, hx, hn, rfl⟩ | ⟨y, hy, hn, rfl⟩)
      · exact .inl (List.mem_map.2 ⟨x, List.mem_filter.2 ⟨(hb x).2 hx, by simpa using hn⟩, rfl⟩)
      · exact .inr (List.mem_map.2 ⟨y, (ha y).2 ((h.2.2 y).2 ⟨hy, fun x hx => hn x ((hb x).1 hx)⟩), rfl⟩)
/-- A row's block is no iterator's. -/
theorem own_not {w : World} {base T k n : Nat} {v : Value} {xs : List Value} (h : w.ownsRow base T k v n xs) {r : Nat} {m : Option Nat} {a c : Nat} {s : Array Nat} (hr : w.heap[r]? = some (.mapIter m a s c)) : v.ownBlock ≠ some r := by
  rcases h.2 with ⟨rfl, -⟩ | ⟨g, cap, cur, rfl, -, hg, -⟩
  · simp [Value.ownBlock]
  · intro e
    simp [Value.ownBlock] at e
    subst e
    rw [hg] at hr
    cases hr
theorem OwnH.kpT {base r : Nat} {w w' : World} {v : Value} {l : List Chg} (h : OwnH base w v l) (g : Kp r w w') {m : Option Nat} {a c : Nat} {s : Array Nat} (hr : w.heap[r]? = some (.mapIter m a s c)) : OwnH base w' v l := by
  refine World.ownsRow.kept h g ?_
  have := own_not h hr
  cases e : v.ownBlock with
  | none => exact .inl rfl
  | some k => exact .inr (by rw [e] at this; exact this)
theorem MapI.same {p n : Nat} {L : List Itm} {w w' : World} (h : MapI p n L w) (e : w'.heap[p]? = w.heap[p]?) : MapI p n L w' := by
  obtain ⟨es, c, hb, hm⟩ := h; exact ⟨es, c, e.trans hb, hm⟩
theorem OwnH.kp2 {base r : Nat} {w w' : World} {v : Value} {l : List Chg} (h : OwnH base w v l) (g : Kp r w w') (hn : r < base) : OwnH base w' v l := by
  refine World.ownsRow.kept h g ?_
  cases e : v.ownBlock with
  | none => exact .inl rfl
  | some k => refine .inr fun e2 => ?_; injection e2 with e2; have := (World.ownsRow.lt h k e).1; omega
theorem cells_chg3 (w : World) (o1 o2 : Obj) (x : Chg) (t : TypeId) : ∀ j u, (hcl x)[j]? = some u → (((w.alloc o1).alloc o2).alloc (.cells (hcl x).toArray t)).cell? ((⟨w.heap.size + 1 + 1, 0, none⟩ : Addr).add j) = some u := by
  have h := cells_onechg ((w.alloc o1).alloc o2) x t
  simp only [World.size_alloc] at h
  exact h
set_option maxHeartbeats 32000000 in
theorem diff_any (a b : List Itm) (va vb : Value) (w : World) (hl : a.length ≤ 1000) (hlb : b.length ≤ 1000) (ha : Itms w w.heap.size va a) (hb : Itms w w.heap.size vb b) :
    Calls Tryz.prog 25 #[va, vb] w fun e w' => ∃ v', e = .returned v' ∧ ∃ c, OwnH w.heap.size w' v' c ∧ DiffIs (ofI a) (ofI b) c ∧ Q w w' := by
  have G1 := Lib.hid (gathered_any a va w hl ha)
  have G2 := Lib.hid (fun (x : World) (q : Q w x) => gathered_any b vb x hlb (hb.on q))
  have HOA : Hid (∀ x ∈ ofI a, x.n.size ≤ maxLen ∧ x.val.size ≤ maxLen) := Lib.hid (fun x hx => ha.okAll x (ofI_sub hx))
  have HOB : Hid (∀ x ∈ ofI b, x.n.size ≤ maxLen ∧ x.val.size ≤ maxLen) := Lib.hid (fun x hx => hb.okAll x (ofI_sub hx))
  have HAA := Lib.hid (ofI_asc a)
  have HAB := Lib.hid (ofI_asc b)
  obtain ⟨A, hA⟩ : ∃ A, A = ofI a := ⟨_, rfl⟩
  obtain ⟨B, hB⟩ : ∃ B, B = ofI b := ⟨_, rfl⟩
  rw [← hA] at G1 HOA HAA ⊢
  rw [← hB] at G2 HOB HAB ⊢
  clear ha hb hA hB
  go_enter Tryz.func25, Tryz.ntmps25
  go_wp2_with fail
  refine (G1.out).mono ?_
  rintro e w1 ⟨p1, rfl, hp1, m1, q1⟩
  have lt1 := m1.lt
  go_wp2_with fail
  refine (G2.out _ q1).mono ?_
  rintro e wo ⟨p2, rfl, hp2, m2, q2⟩
  have m1 := m1.on q2
  have hbel := q1.trans q2
  clear G1 G2 q1 q2
  obtain ⟨es, clock, hmb, hmi, hes⟩ := m2
  have HMI := Lib.hid hmi
  have hes2 : es.size ≤ 1000 := by omega
  have hp12 : p1 < p2 := by omega
  clear hmi hes
  go_wp2_with (refine wpList_range_w _ rfl _ rfl _ _ _ rfl hmb ?_)
  have hpi : p2 < wo.heap.size := lt_of_block hmb
  have it0 : (wo.alloc (.mapIter (some p2) clock #[] clock)).heap[wo.heap.size]? = some (.mapIter (some p2) clock #[] clock) := heap_new _ _
  have qa := hbel.trans ((Q.refl wo).alloc (.mapIter (some p2) clock #[] clock))
  have mb0 := (((Q.refl wo).alloc (.mapIter (some p2) clock #[] clock)).block p2 hpi).trans hmb
  have ma0 := m1.on ((Q.refl wo).alloc (.mapIter (some p2) clock #[] clock))
  have sz0 : (wo.alloc (.mapIter (some p2) clock #[] clock)).heap.size = wo.heap.size + 1 := World.size_alloc ..
  obtain ⟨pi, hpi2⟩ : ∃ z, z = wo.heap.size := ⟨_, rfl⟩
  obtain ⟨y1, hy1⟩ : ∃ z, z = wo.alloc (.mapIter (some p2) clock #[] clock) := ⟨_, rfl⟩
  rw [← hy1, ← hpi2] at it0
  rw [← hy1] at qa mb0 ma0
  rw [← hy1, ← hpi2] at sz0
  rw [← hy1, ← hpi2]
  rw [← hpi2] at hpi
  have hwpi : w.heap.size ≤ pi := by rw [hpi2]; exact hbel.size
  have hw1 : w.heap.size ≤ p1 := hp1
  clear hy1 hpi2 hmb hbel m1 hp1 hp2 lt1
  have HIT := Lib.hid it0
  have HMB := Lib.hid mb0
  have HMA := Lib.hid ma0
  have HQA := Lib.hid qa
  have HSZ := Lib.hid sz0
  clear it0 mb0 ma0 qa sz0
  (try simp only [Act.put, List.setIfInBounds_toArray, List.set_cons_zero, List.set_cons_succ])
  go_loopw [6] (fun O wr => ∃ (seen : Array Nat) (c0 : Nat) (acc Ad : List Itm), wr.heap[pi]? = some (.mapIter (some p2) clock seen c0) ∧ clock ≤ c0 ∧ wr.heap[p2]? = some (.map es clock) ∧ MapI p1 a.length Ad wr ∧ DifI A es seen acc Ad ∧ OwnH (pi + 1) wr O (newC A acc) ∧ Q w wr ∧ pi < wr.heap.size) (fun _ wr => leftW wr pi es)
  case atStart => exact ⟨#[], clock, [], A, HIT.out, Nat.le_refl _, HMB.out, HMA.out, DifI.nil HAA.out es, OwnH.nil _ _, HQA.out, by have := HSZ.out; omega⟩
  case round =>
    obtain ⟨seen, c0, acc, Ad, hit, hc0, hmr, hma, hdif, hown, q, hlt2⟩ := hrel
    clear HIT HMB HMA HQA HSZ
    have hold : ∀ e ∈ es.toList, e.born < clock := fun e he => (HMI.out.1 e he).1
    have HDIF := Lib.hid hdif
    have hAd : ∀ y ∈ Ad, y ∈ A := fun y hy => ((hdif.2.2 y).1 hy).1
    clear hdif
    have hal : acc.length ≤ 1000 := by have := HDIF.out.1.1; omega
    have hnl : (newC A acc).length ≤ 1000 := Nat.le_trans (newC_len A acc) hal
    by_cases hleft : (leftOf es seen).size = 0
    · obtain ⟨wq, hwq⟩ : ∃ x, x = wr := ⟨_, rfl⟩
      subst hwq
      have HALL := Lib.hid (HDIF.out.1.all HMI.out hleft)
      obtain ⟨es1, clock1, hmb1, hmi1, hes1⟩ := hma
      have HM1 := Lib.hid hmi1
      clear hmi1
      go_wp2_with (first
        | (at_next; refine wpList_next_w _ rfl _ rfl _ _ _ _ _ _ _ rfl hit hmr hold hc0 (fun _ => ?_) (fun e he => (leftW_empty hleft he).elim))
        | (at_range; refine wpList_range_w _ rfl _ rfl _ _ _ rfl hmb1 ?_))
      clear hmr hold hit hc0 hleft
      have hp1q : p1 < wq.heap.size := lt_of_block hmb1
      have it0 : (wq.alloc (.mapIter (some p1) clock1 #[] clock1)).heap[wq.heap.size]? = some (.mapIter (some p1) clock1 #[] clock1) := heap_new _ _
      have qa := q.trans ((Q.refl wq).alloc (.mapIter (some p1) clock1 #[] clock1))
      have mb0 := (((Q.refl wq).alloc (.mapIter (some p1) clock1 #[] clock1)).block p1 hp1q).trans hmb1
      have oo0 := OwnH.on hown ((Q.refl wq).alloc (.mapIter (some p1) clock1 #[] clock1))
      obtain ⟨pj, hpj⟩ : ∃ z, z = wq.heap.size := ⟨_, rfl⟩
      obtain ⟨y2, hy2⟩ : ∃ z, z = wq.alloc (.mapIter (some p1) clock1 #[] clock1) := ⟨_, rfl⟩
      rw [← hy2, ← hpj] at it0
      rw [← hy2] at qa mb0 oo0
      rw [← hy2, ← hpj]
      have hwpj : w.heap.size ≤ pj := by rw [hpj]; exact q.size
      have hpp : pi < pj := by rw [hpj]; exact hlt2
      clear hy2 hpj hmb1 q hown hlt2 hp1q
      have HIT := Lib.hid it0
      have HMB := Lib.hid mb0
      have HQA := Lib.hid qa
      have HOO := Lib.hid oo0
      clear it0 mb0 qa oo0
      (try simp only [Act.put, List.setIfInBounds_toArray, List.set_cons_zero, List.set_cons_succ])
      go_loopw [6] (fun O wr => ∃ (seen2 : Array Nat) (c2 : Nat) (accA : List Itm), wr.heap[pj]? = some (.mapIter (some p1) clock1 seen2 c2) ∧ clock1 ≤ c2 ∧ wr.heap[p1]? = some (.map es1 clock1) ∧ ColI es1 seen2 accA ∧ OwnH (pi + 1) wr O (newC A acc ++ goneC accA) ∧ Q w wr) (fun _ wr => leftW wr pj es1)
      case atStart => exact ⟨#[], clock1, [], HIT.out, Nat.le_refl _, HMB.out, ColI.nil _, by have := HOO.out; simpa [goneC] using this, HQA.out⟩
      case round =>
        obtain ⟨seen2, c2, accA, hit2, hc2, hmr2, hcol2, hown2, q2⟩ := hrel
        clear HIT HMB HQA HOO
        have hold2 : ∀ e ∈ es1.toList, e.born < clock1 := fun e he => (HM1.out.1 e he).1
        have HCOL := Lib.hid hcol2
        clear hcol2
        have hal2 : accA.length ≤ 1000 := by have := HCOL.out.1; omega
        have hll : (newC A acc ++ goneC accA).length ≤ 2000 := by rw [List.length_append, goneC_len]; omega
        by_cases hleft2 : (leftOf es1 seen2).size = 0
        · have HALL2 := Lib.hid (HCOL.out.all HM1.out hleft2)
          have C := Lib.hid (fun (x : World) (v : Value) (h : OwnH (pi + 1) x v (newC A acc ++ goneC accA)) => sH_sort _ v (pi + 1) x h (by omega))
          go_wp2_with (first
            | (at_next; refine wpList_next_w _ rfl _ rfl _ _ _ _ _ _ _ rfl hit2 hmr2 hold2 hc2 (fun _ => ?_) (fun e he => (leftW_empty hleft2 he).elim))
            | (go_at_call 44; refine (C.out _ _ hown2).mono ?_; rintro e w6 ⟨rfl, L', hp6, hs6, o6, g6⟩))
          go_ret
          have hfin := HDIF.out.done HAA.out HAB.out HALL.out HALL2.out HCOL.out.2.2.2 hp6 hs6
          exact ⟨_, rfl, L', OwnH.low o6 (by omega), hfin, Below.grown q2 g6 q2.size (fun k hk => by have := (World.ownsRow.lt hown2 k hk).1; omega)⟩
        · go_upto_region 13 with (first
            | (at_next; refine wpList_next_w _ rfl _ rfl _ _ _ _ _ _ _ rfl hit2 hmr2 hold2 hc2 (fun h => absurd h hleft2) ?_; intro en hen w5 hw5; have hmem := (mem_left hen).1; obtain ⟨-, x', hxm, hk', hv'⟩ := HM1.out.1 en hmem; have k5 := map_kp w5 pj (.mapIter (some p1) clock1 (seen2.push en.born) clock1); have hit4 := iterW_at hit2 hw5; have hit5 := iterW_set hit4 (o' := .mapIter (some p1) clock1 (seen2.push en.born) clock1); have q50 := iterW_q q2 hw5; have mr5 := iterW_at hmr2 hw5; have o50 : OwnH (pi + 1) w5 _ (newC A acc ++ goneC accA) := (by (rcases hw5 with rfl | rfl; exact hown2; exact OwnH.on hown2 (Q.refl _).drew)))
            | (refine wpList_entry_w _ rfl _ rfl _ _ _ _ _ _ en rfl hit5 (((k5.block p1 (lt_of_block mr5) (by simp; omega))).trans mr5) hmem HM1.out.2.1 ?_; rw [hk', hv', itm]))
          have hmr6 := (k5.block p1 (lt_of_block mr5) (by simp; omega)).trans mr5
          have q6 := k5.q q50 hwpj
          have o6 := o50.kpT k5 hit4
          have HC2 := Lib.hid (HCOL.out.step HM1.out hen hk' hv')
          have HMS : Hid ((leftOf es1 (seen2.push en.born)).size < (leftOf es1 seen2).size) := Lib.hid (left_shrinks _ _ _ hen)
          have hszs : pj < (setBlock w5 pj (.mapIter (some p1) clock1 (seen2.push en.born) clock1)).heap.size := lt_of_block hit5
          obtain ⟨ws, hws⟩ : ∃ z, z = setBlock w5 pj (.mapIter (some p1) clock1 (seen2.push en.born) clock1) := ⟨_, rfl⟩
          rw [← hws] at hit5 hmr6 q6 o6 hszs ⊢
          clear hws hw5 k5 q50 mr5 o50 hit4 hmr2 hown2 q2 hen hmem hleft2 hxm
          have HNB := Lib.hid (own_not o6 hit5)
          have hitH := Lib.hid hit5
          have HGS : Hid (newC A acc ++ goneC (accA ++ [x']) = (newC A acc ++ goneC accA) ++ [⟨x'.n, ⟨#[]⟩, true⟩]) := Lib.hid (by rw [goneC_snoc, List.append_assoc])
          clear hit5
          go_wp2_with (at_builtin; refine wpList_snoc_chg _ rfl _ _ 40 72 Tryz.underlying40 rfl (pi + 1) ws.heap.size _ (newC A acc ++ goneC accA) ⟨x'.n, ⟨#[]⟩, true⟩ rfl rfl (cells_chg1 ws ⟨x'.n, ⟨#[]⟩, true⟩ 72) (World.ownsRow.alloc o6 _) ?hb ?hl ?_; (case hb => simp; omega); (case hl => omega); intro v8 w8 o8 g8)
          rw [← HGS.out] at o8
          have q8 : Q w w8 := Below.grown (q6.alloc _) g8 (by have := q6.size; simp; omega) (fun k hk => by have := (World.ownsRow.lt o6 k hk).1; omega)
          have it8 := ((g8.block pj (by simp; omega) (fun e => HNB.out e.symm)).trans (Below.block ((Q.refl ws).alloc _) pj hszs)).trans hitH.out
          have mr8 := ((g8.block p1 (by simp; omega) (fun e => by have := (World.ownsRow.lt o6 p1 e.symm).1; omega)).trans (Below.block ((Q.refl ws).alloc _) p1 (by omega))).trans hmr6
          go_roundw
          case rel => exact ⟨_, _, _, it8, Nat.le_refl _, mr8, HC2.out, o8, q8⟩
          case measure => simp only [leftW, it8, hit2]; exact HMS.out
    · go_upto_region 6 with (first
        | (at_next; refine wpList_next_w _ rfl _ rfl _ _ _ _ _ _ _ rfl hit hmr hold hc0 (fun h => absurd h hleft) ?_; intro en hen w5 hw5; have hmem := (mem_left hen).1; obtain ⟨-, x', hxm, hk', hv'⟩ := HMI.out.1 en hmem; have k5 := map_kp w5 pi (.mapIter (some p2) clock (seen.push en.born) clock); have hit4 := iterW_at hit hw5; have hit5 := iterW_set hit4 (o' := .mapIter (some p2) clock (seen.push en.born) clock); have q50 := iterW_q q hw5; have lt5 : pi < w5.heap.size := lt_of_block hit4; have mr5 := iterW_at hmr hw5; have o50 : OwnH (pi + 1) w5 u6 (newC A acc) := (by (rcases hw5 with rfl | rfl; exact hown; exact OwnH.on hown (Q.refl _).drew)); have ma5 : MapI p1 a.length Ad w5 := (by (rcases hw5 with rfl | rfl; exact hma; exact hma.on (Q.refl _).drew)))
        | (refine wpList_entry_w _ rfl _ rfl _ _ _ _ _ _ en rfl hit5 (((k5.block p2 (lt_of_block mr5) (by simp; omega))).trans mr5) hmem HMI.out.2.1 ?_; rw [hk', hv', itm]))
      have hmr6 := (k5.block p2 (lt_of_block mr5) (by simp; omega)).trans mr5
      have q6 := k5.q q50 hwpi
      have o6 := o50.kpT k5 hit4
      have ma6 := ma5.kp k5 (by omega)
      have lt6 : pi < (setBlock w5 pi (.mapIter (some p2) clock (seen.push en.born) clock)).heap.size := Nat.lt_of_lt_of_le lt5 k5.size
      have HC2 := Lib.hid (HDIF.out.step HMI.out hen hk' hv')
      have HFR := Lib.hid (HDIF.out.1.fresh HMI.out hen hk')
      have HMS : Hid ((leftOf es (seen.push en.born)).size < (leftOf es seen).size) := Lib.hid (left_shrinks _ _ _ hen)
      obtain ⟨ws, hws⟩ : ∃ z, z = setBlock w5 pi (.mapIter (some p2) clock (seen.push en.born) clock) := ⟨_, rfl⟩
      rw [← hws] at hit5 hmr6 q6 o6 lt6 ma6 ⊢
      clear hws hw5 k5 q50 lt5 mr5 o50 ma5 hit4 hmr hma hown q hlt2 hen hmem hleft
      have hitH := Lib.hid hit5
      have hxo := HOB.out x' hxm
      clear hit5
      have mL := ma6.on ((Q.refl ws).alloc (.cells #[.string x'.n, .string x'.val] 68))
      have hlk := mL.look HDIF.out.2.1 (fun y hy => (HOA.out y (hAd y hy)).1) hxo.1
      have hsd : ∀ y ∈ Ad, y.n.size ≤ maxLen := fun y hy => (HOA.out y (hAd y hy)).1
      rcases hlk with ⟨y, hy, hyn, hrunL⟩ | ⟨hno, hrunL⟩
      · have hyA := hAd y hy
        rw [itm] at hrunL
        have hrunL2 : (Instr.lookup 90 (.map (some p1)) (.string x'.n) true).run Tryz.prog (ws.alloc (.cells #[.string x'.n, .string x'.val] 68)) = .ok (.tuple #[.agg #[.string y.n, .string y.val], .bool true]) (ws.alloc (.cells #[.string x'.n, .string x'.val] 68)) := hrunL
        clear hrunL
        have mD := mL.on ((Q.refl _).alloc (.cells #[.string y.n, .string y.val] 68))
        have qD := (q6.alloc (.cells #[.string x'.n, .string x'.val] 68)).alloc (.cells #[.string y.n, .string y.val] 68)
        by_cases hvv : y.val = x'.val
        · have hxA : x' ∈ A := by
            have : x' = y := by cases x'; cases y; simp only at hyn hvv; rw [hyn, hvv]
            rw [this]; exact hyA
          have HNC := Lib.hid (newC_no (acc := acc) hxA)
          have hve : (y.val.toList == x'.val.toList) = true := by rw [hvv]; simp
          obtain ⟨w9, hrun9, m9, g9, -⟩ := mD.del hsd hxo.1 0
          have RUN := Lib.hid hrun9
          have q9 := g9.q qD hw1
          have o9 : OwnH (pi + 1) w9 u6 (newC A (acc ++ [x'])) := by rw [HNC.out]; exact OwnH.kp2 (OwnH.on o6 (((Q.refl ws).alloc _).alloc _)) g9 (by omega)
          have it9 := ((g9.block pi (by simp; omega) (by simp; omega)).trans (Below.block (((Q.refl ws).alloc (.cells #[.string x'.n, .string x'.val] 68)).alloc (.cells #[.string y.n, .string y.val] 68)) pi lt6)).trans hitH.out
          have mr9 := ((g9.block p2 (by simp; omega) (by simp; omega)).trans (Below.block (((Q.refl ws).alloc (.cells #[.string x'.n, .string x'.val] 68)).alloc (.cells #[.string y.n, .string y.val] 68)) p2 (by omega))).trans hmr6
          clear hrun9 mD qD g9 mL o6 hvv hy hyA hyn
          go_wp2_with (at_delete; refine wpList_run_del RUN.out rfl _ _ rfl rfl rfl ?_)
          (try simp only [Act.put, List.setIfInBounds_toArray, List.set_cons_zero, List.set_cons_succ])
          go_roundw
          case rel => exact ⟨_, _, _, _, it9, Nat.le_refl _, mr9, m9, HC2.out, o9, q9, lt_of_block it9⟩
          case measure => simp only [leftW, it9, hit]; exact HMS.out
        · have hxA : x' ∉ A := fun h => hvv (by have := HAA.out.one h hyA hyn.symm; rw [this])
          have HNC := Lib.hid (newC_yes (acc := acc) hxA)
          have hve : (y.val.toList == x'.val.toList) = false := key_ne hvv
          clear mD qD mL hvv hy hyA hyn hxA
          go_wp2_with (first
            | (at_builtin; refine wpList_snoc_chg _ rfl _ _ 40 72 Tryz.underlying40 rfl (pi + 1) (ws.heap.size + 1 + 1) _ (newC A acc) ⟨x'.n, x'.val, false⟩ rfl rfl (cells_chg3 ws _ _ ⟨x'.n, x'.val, false⟩ 72) (World.ownsRow.alloc (World.ownsRow.alloc (World.ownsRow.alloc o6 _) _) _) ?hb ?hl ?_; (case hb => simp; omega); (case hl => omega); intro v8 w8 o8 g8; rw [← HNC.out] at o8; have nb8 : ∀ k, k < pi + 1 → w8.heap[k]? = ws.heap[k]? := fun k hk => (g8.block k (by simp; omega) (fun e => by have := (World.ownsRow.lt o6 k e.symm).1; omega)).trans (Below.block ((((Q.refl ws).alloc _).alloc _).alloc _) k (by omega)); have m8 := ma6.same (nb8 p1 (by omega)); have q8 : Q w w8 := Below.grown (((q6.alloc _).alloc _).alloc _) g8 (by have := q6.size; simp; omega) (fun k hk => by have := (World.ownsRow.lt o6 k hk).1; omega); obtain ⟨w9, hrun9, m9, g9, -⟩ := m8.del hsd hxo.1 0)
            | (at_delete; refine wpList_run_del hrun9 rfl _ _ rfl rfl rfl ?_))
          (try simp only [Act.put, List.setIfInBounds_toArray, List.set_cons_zero, List.set_cons_succ])
          have q9 := g9.q q8 hw1
          have o9 := OwnH.kp2 o8 g9 (by omega)
          have lt8 := Nat.lt_of_lt_of_le lt6 (show ws.heap.size ≤ w8.heap.size by have := g8.size; simp at this; omega)
          have it9 := ((g9.block pi lt8 (by simp; omega)).trans (nb8 pi (Nat.lt_succ_self _))).trans hitH.out
          have mr9 := ((g9.block p2 (by omega) (by simp; omega)).trans (nb8 p2 (by omega))).trans hmr6
          go_roundw
          case rel => exact ⟨_, _, _, _, it9, Nat.le_refl _, mr9, m9, HC2.out, o9, q9, lt_of_block it9⟩
          case measure => simp only [leftW, it9, hit]; exact HMS.out
      · have hxA : x' ∉ A := fun h => hno x' ((HDIF.out.2.2 x').2 ⟨h, HFR.out⟩) rfl
        have HNC := Lib.hid (newC_yes (acc := acc) hxA)
        rw [itm] at hrunL
        have hrunL2 : (Instr.lookup 90 (.map (some p1)) (.string x'.n) true).run Tryz.prog (ws.alloc (.cells #[.string x'.n, .string x'.val] 68)) = .ok (.tuple #[.agg #[.string ⟨#[]⟩, .string ⟨#[]⟩], .bool false]) (ws.alloc (.cells #[.string x'.n, .string x'.val] 68)) := hrunL
        clear hrunL mL hno hxA
        go_wp2_with (first
          | (at_builtin; refine wpList_snoc_chg _ rfl _ _ 40 72 Tryz.underlying40 rfl (pi + 1) (ws.heap.size + 1 + 1) _ (newC A acc) ⟨x'.n, x'.val, false⟩ rfl rfl (cells_chg3 ws _ _ ⟨x'.n, x'.val, false⟩ 72) (World.ownsRow.alloc (World.ownsRow.alloc (World.ownsRow.alloc o6 _) _) _) ?hb ?hl ?_; (case hb => simp; omega); (case hl => omega); intro v8 w8 o8 g8; rw [← HNC.out] at o8; have nb8 : ∀ k, k < pi + 1 → w8.heap[k]? = ws.heap[k]? := fun k hk => (g8.block k (by simp; omega) (fun e => by have := (World.ownsRow.lt o6 k e.symm).1; omega)).trans (Below.block ((((Q.refl ws).alloc _).alloc _).alloc _) k (by omega)); have m8 := ma6.same (nb8 p1 (by omega)); have q8 : Q w w8 := Below.grown (((q6.alloc _).alloc _).alloc _) g8 (by have := q6.size; simp; omega) (fun k hk => by have := (World.ownsRow.lt o6 k hk).1; omega); obtain ⟨w9, hrun9, m9, g9, -⟩ := m8.del hsd hxo.1 0)
          | (at_delete; refine wpList_run_del hrun9 rfl _ _ rfl rfl rfl ?_))
        (try simp only [Act.put, List.setIfInBounds_toArray, List.set_cons_zero, List.set_cons_succ])
        have q9 := g9.q q8 hw1
        have o9 := OwnH.kp2 o8 g9 (by omega)
        have lt8 := Nat.lt_of_lt_of_le lt6 (show ws.heap.size ≤ w8.heap.size by have := g8.size; simp at this; omega)
        have it9 := ((g9.block pi lt8 (by simp; omega)).trans (nb8 pi (Nat.lt_succ_self _))).trans hitH.out
        have mr9 := ((g9.block p2 (by omega) (by simp; omega)).trans (nb8 p2 (by omega))).trans hmr6
        go_roundw
        case rel => exact ⟨_, _, _, _, it9, Nat.le_refl _, mr9, m9, HC2.out, o9, q9, lt_of_block it9⟩
        case measure => simp only [leftW, it9, hit]; exact HMS.out
end Go.Proofs.YtbilnomafloopaaGreat
