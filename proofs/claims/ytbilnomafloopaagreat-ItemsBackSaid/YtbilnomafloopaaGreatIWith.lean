/-
  Contract of the program's With.
-/
import Derived.Test.YtbilnomafloopaaGreatISort
import Derived.Deep.DeepCutAuto
namespace Go.Proofs.YtbilnomafloopaaGreat
set_option maxRecDepth 100000
open Go.ChangeShapes Go.WideShapes Go.ChangeAt Go.RowKit
open Go.ChangeMaps (setBlock)
set_option linter.unusedVariables false
set_option linter.unusedSimpArgs false

theorem OwnI.kp {base r : Nat} {w w' : World} {v : Value} {l : List Itm} (h : OwnI base w v l) (g : Kp r w w') (hn : r < base) : OwnI base w' v l := by
  refine World.ownsRow.kept h g ?_
  cases e : v.ownBlock with
  | none => exact .inl rfl
  | some k => refine .inr fun e2 => ?_; injection e2 with e2; have := (World.ownsRow.lt h k e).1; omega
theorem MapI.grown {p n : Nat} {L : List Itm} {w w' : World} {row : Option Nat} (h : MapI p n L w) (g : w.grownBy w' row) (hn : some p ≠ row) : MapI p n L w' := by
  obtain ⟨es, c, hb, hm⟩ := h; exact ⟨es, c, (g.block p (lt_of_block hb) hn).trans hb, hm⟩
theorem withI_ok {l : List Itm} {c : List Chg} (hs : ∀ x ∈ l, okI x) (hk : ∀ x ∈ c, okH x) (i : Nat) : ∀ x ∈ (c.take i).foldl stepC (ofI l), okI x :=
  foldC_all (p := fun n v => n.size ≤ maxLen ∧ v.size ≤ maxLen) (fun x hx => hs x (ofI_sub hx)) (fun x hx => by have := hk x (List.mem_of_mem_take hx); exact ⟨this.1, this.2.1⟩)
set_option maxHeartbeats 16000000 in
theorem with_any (l : List Itm) (c : List Chg) (lv cv : Value) (w : World) (hl : l.length ≤ 1000) (hc : c.length ≤ 1000) (hs : ∀ x ∈ l, okI x) (ht : Itms w w.heap.size lv l) (hk : Chgs w w.heap.size cv c) :
    Calls Tryz.prog 22 #[lv, cv] w fun e w' => ∃ v', e = .returned v' ∧ OwnI w.heap.size w' v' (withI l c) ∧ Q w w' := by
  have G := Lib.hid (gathered_any l lv w hl ht)
  obtain ⟨B, c2, rfl, -, -, hok2, hcells2⟩ := hk
  have HD := Lib.hid hcells2
  have HK := Lib.hid hok2
  have HOK := Lib.hid (withI_ok hs hok2)
  have HAS := Lib.hid (fun i => foldC_asc (c.take i) (ofI_asc l))
  clear hcells2 hok2 hs ht
  go_enter Tryz.func22, Tryz.ntmps22
  go_wp2_with fail
  refine (G.out).mono ?_
  rintro e w1 ⟨p, rfl, hp, m1, q1⟩
  clear G
  have m1' : MapI p (l.length + 0) ((c.take 0).foldl stepC (ofI l)) w1 := m1
  clear m1
  go_wp2_with fail
  go_loopw [15] (fun I wr => ∃ i : Nat, i ≤ c.length ∧ I = .int .i64 i ∧ MapI p (l.length + i) ((c.take i).foldl stepC (ofI l)) wr ∧ Q w wr) (fun I _ => c.length - (intOf I).toNat)
  case atStart => exact ⟨0, Nat.zero_le _, rfl, m1', q1⟩
  case round =>
    obtain ⟨i, hil, rfl, hm, hbel⟩ := hrel
    clear m1' q1
    by_cases hlt : i < c.length
    · obtain ⟨a, hAa, ha, hat⟩ := HD.out i hlt
      subst hAa
      obtain ⟨c0, c1, c2⟩ := hat.keep (by rw [add_block]; exact ha) fun p hp => hbel.cell hp
      have hy0 := HK.out _ (List.getElem_mem hlt)
      have HW := withI_take l c i hlt
      obtain ⟨y, hy⟩ : ∃ y, y = c[i] := ⟨_, rfl⟩
      rw [← hy] at c0 c1 c2 hy0 HW
      clear hy hat
      have hilt : (i : Int) < (c.length : Int) := by omega
      have hm2 := hm.on ((Q.refl wr).alloc (.cells #[.string y.n, .string y.val, .bool y.gone] 72))
      have qb := hbel.trans ((Q.refl wr).alloc (.cells #[.string y.n, .string y.val, .bool y.gone] 72))
      have hsz : ∀ x ∈ (c.take i).foldl stepC (ofI l), x.n.size ≤ maxLen := fun x hx => (HOK.out i x hx).1
      cases hg : y.gone with
      | true =>
        rw [stepC_gone (HAS.out i) hg] at HW
        rw [hg] at hm2 qb c2
        obtain ⟨w5, hrun, m5, g5, -⟩ := hm2.del hsz hy0.1 0
        have q5 := g5.q qb hp
        rw [← HW] at m5
        have RUN := Lib.hid hrun
        clear hrun hm hm2 g5 hy0 qb HW hsz hg
        go_wp2_with (at_delete; refine wpList_run_del RUN.out rfl _ _ rfl rfl rfl ?_)
        go_roundw
        case rel => exact ⟨i + 1, by omega, by go_num, m5.more (by omega), q5⟩
        case measure => simp [intOf]; omega
      | false =>
        have HW2 : (c.take (i + 1)).foldl stepC (ofI l) = inG Itm.n ((c.take i).foldl stepC (ofI l)) ⟨y.n, y.val⟩ := by rw [HW, stepC, if_neg (by rw [hg]; decide)]
        rw [hg] at hm2 qb c2
        obtain ⟨w5, hrun, m5, g5, -⟩ := hm2.put hsz (x := ⟨y.n, y.val⟩) hy0.1
        have q5 := g5.q qb hp
        rw [← HW2] at m5
        rw [itm] at hrun
        have RUN := Lib.hid hrun
        clear hrun hm hm2 g5 hy0 qb HW HW2 hsz hg
        go_wp2_with (at_mapUpdate; refine wpList_run_put RUN.out rfl _ _ _ rfl rfl rfl rfl ?_)
        go_roundw
        case rel => exact ⟨i + 1, by omega, by go_num, m5.more (by omega), q5⟩
        case measure => simp [intOf]; omega
    · have h2 : ¬ (i : Int) < (c.length : Int) := by omega
      obtain ⟨wo, hwo⟩ : ∃ x, x = wr := ⟨_, rfl⟩
      subst hwo
      rw [List.take_of_length_le (by omega)] at hm
      have HL : Hid (∀ x ∈ withI l c, okI x) := Lib.hid (by have := HOK.out c.length; rw [List.take_of_length_le (Nat.le_refl _)] at this; exact this)
      have HA := Lib.hid (withI_asc l c)
      have hm : MapI p (l.length + i) (withI l c) wo := hm
      obtain ⟨L, hL⟩ : ∃ L, L = withI l c := ⟨_, rfl⟩
      rw [← hL] at hm HL HA
      have HLE := Lib.hid hL
      clear hL HOK HAS HK
      obtain ⟨es, clock, hmb, hmi, hes⟩ := hm
      have HMI := Lib.hid hmi
      have hes2 : es.size ≤ 2000 := by omega
      clear hmi hes
      go_wp2_with (refine wpList_range_w _ rfl _ rfl _ _ _ rfl hmb ?_)
      have hpi : p < wo.heap.size := lt_of_block hmb
      have it0 : (wo.alloc (.mapIter (some p) clock #[] clock)).heap[wo.heap.size]? = some (.mapIter (some p) clock #[] clock) := heap_new _ _
      have qa := hbel.trans ((Q.refl wo).alloc (.mapIter (some p) clock #[] clock))
      have mb0 := (((Q.refl wo).alloc (.mapIter (some p) clock #[] clock)).block p hpi).trans hmb
      have sz0 : (wo.alloc (.mapIter (some p) clock #[] clock)).heap.size = wo.heap.size + 1 := World.size_alloc ..
      obtain ⟨pi, hpi2⟩ : ∃ z, z = wo.heap.size := ⟨_, rfl⟩
      obtain ⟨y1, hy1⟩ : ∃ z, z = wo.alloc (.mapIter (some p) clock #[] clock) := ⟨_, rfl⟩
      rw [← hy1, ← hpi2] at it0
      rw [← hy1] at qa mb0
      rw [← hy1, ← hpi2] at sz0
      rw [← hy1, ← hpi2]
      rw [← hpi2] at hpi
      have hwpi : w.heap.size ≤ pi := by rw [hpi2]; exact hbel.size
      clear hy1 hpi2 hmb hbel
      have HIT := Lib.hid it0
      have HMB := Lib.hid mb0
      have HQA := Lib.hid qa
      have HSZ := Lib.hid sz0
      clear it0 mb0 qa sz0
      go_wp2_with fail
      go_loopw [8] (fun O wr => ∃ (seen : Array Nat) (c0 : Nat) (acc : List Itm), wr.heap[pi]? = some (.mapIter (some p) clock seen c0) ∧ clock ≤ c0 ∧ wr.heap[p]? = some (.map es clock) ∧ OwnI (pi + 1) wr O acc ∧ ColI es seen acc ∧ Q w wr ∧ pi < wr.heap.size) (fun _ wr => leftW wr pi es)
      case atStart => exact ⟨#[], clock, [], HIT.out, Nat.le_refl _, HMB.out, OwnI.nil _ _, ColI.nil _, HQA.out, by have := HSZ.out; omega⟩
      case round =>
        obtain ⟨seen, c0, acc, hit, hc0, hmr, hown, hcol, q, hlt2⟩ := hrel
        clear HIT HMB HQA HSZ
        have hold : ∀ e ∈ es.toList, e.born < clock := fun e he => (HMI.out.1 e he).1
        have HCOL := Lib.hid hcol
        clear hcol
        by_cases hleft : (leftOf es seen).size = 0
        · have HALL := Lib.hid (HCOL.out.all HMI.out hleft)
          have hal : acc.length ≤ 2000 := by have := HCOL.out.1; omega
          have C := Lib.hid (fun (x : World) (h : OwnI (pi + 1) x u8 acc) => sortItems_any acc u8 (pi + 1) x h (by omega))
          go_wp2_with (first | (refine wpList_next_w _ rfl _ rfl _ _ _ _ _ _ _ rfl hit hmr hold hc0 (fun _ => ?_) (fun e he => (leftW_empty hleft he).elim)) | (go_at_call 34; refine (C.out _ hown).mono ?_; rintro e w6 ⟨rfl, L', hp6, hs6, o6, g6⟩))
          go_ret
          have hfin : L' = L := sorted_is hp6 hs6 HCOL.out.2.2.2 HA.out HALL.out
          subst hfin
          exact ⟨_, rfl, by rw [← HLE.out]; exact OwnI.low o6 (by omega), Below.grown q g6 q.size (fun k hk => by have := (World.ownsRow.lt hown k hk).1; omega)⟩
        · go_upto_region 13 with (first
            | (refine wpList_next_w _ rfl _ rfl _ _ _ _ _ _ _ rfl hit hmr hold hc0 (fun h => absurd h hleft) ?_; intro en hen w5 hw5; have hmem := (mem_left hen).1; obtain ⟨-, x', hxm, hk', hv'⟩ := HMI.out.1 en hmem; have k5 := map_kp w5 pi (.mapIter (some p) clock (seen.push en.born) clock); have hit5 := iterW_set (iterW_at hit hw5) (o' := .mapIter (some p) clock (seen.push en.born) clock); have q50 := iterW_q q hw5; have lt5 : pi < w5.heap.size := lt_of_block (iterW_at hit hw5); have mr5 := iterW_at hmr hw5; have o50 : OwnI (pi + 1) w5 u8 acc := by (rcases hw5 with rfl | rfl; exact hown; exact OwnI.on hown (Q.refl _).drew))
            | (refine wpList_entry_w _ rfl _ rfl _ _ _ _ _ _ en rfl hit5 (((k5.block p (lt_of_block mr5) (by simp; omega))).trans mr5) hmem HMI.out.2.1 ?_; rw [hk', hv', itm]))
          have hmr6 := (k5.block p (lt_of_block mr5) (by simp; omega)).trans mr5
          have q6 := k5.q q50 hwpi
          have o6 := o50.kp k5 (Nat.lt_succ_self _)
          have lt6 : pi < (setBlock w5 pi (.mapIter (some p) clock (seen.push en.born) clock)).heap.size := Nat.lt_of_lt_of_le lt5 k5.size
          have HC2 := Lib.hid (HCOL.out.step HMI.out hen hk' hv')
          have HMS : Hid ((leftOf es (seen.push en.born)).size < (leftOf es seen).size) := Lib.hid (left_shrinks _ _ _ hen)
          obtain ⟨ws, hws⟩ : ∃ z, z = setBlock w5 pi (.mapIter (some p) clock (seen.push en.born) clock) := ⟨_, rfl⟩
          rw [← hws] at hit5 hmr6 q6 o6 lt6 ⊢
          have hal : acc.length ≤ 2000 := by have := HCOL.out.1; omega
          clear hws hw5 k5 q50 lt5 mr5 o50 hmr hown q hlt2 hen hmem hxm hleft
          have hitH := Lib.hid hit5
          clear hit5
          go_wp2_with (at_builtin; refine wpList_snoc_itm _ rfl _ _ 26 68 Tryz.underlying26 rfl (pi + 1) (ws.heap.size + 1) _ acc x' rfl rfl (cells_itm2 ws _ x' 68) (World.ownsRow.alloc (World.ownsRow.alloc o6 _) _) ?hb ?hl ?_; (case hb => simp; omega); (case hl => omega); intro v8 w8 o8 g8)
          have q8 : Q w w8 := Below.grown ((q6.alloc _).alloc _) g8 (by have := q6.size; simp; omega) (fun k hk => by have := (World.ownsRow.lt o6 k hk).1; omega)
          have e8 : ∀ k, k < pi + 1 → w8.heap[k]? = ws.heap[k]? := fun k hk => (g8.block k (by simp; omega) (fun e => by have := (World.ownsRow.lt o6 k e.symm).1; omega)).trans (Below.block (((Q.refl ws).alloc _).alloc _) k (by omega))
          have it8 := (e8 pi (Nat.lt_succ_self _)).trans hitH.out
          have mr8 := (e8 p (by omega)).trans hmr6
          go_roundw
          case rel => exact ⟨_, _, _, it8, Nat.le_refl _, mr8, o8, HC2.out, q8, lt_of_block it8⟩
          case measure => simp only [leftW, it8, hit]; exact HMS.out
end Go.Proofs.YtbilnomafloopaaGreat
