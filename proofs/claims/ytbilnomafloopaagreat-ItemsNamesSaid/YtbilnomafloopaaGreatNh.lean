/-
  An upload's items. An entry's items. Buckets, many of them, and depots in memory: slices that are read, rows that a call makes, what comes in.
-/
import Derived.Test.YtbilnomafloopaaGreatNg
import Derived.Test.YtbilnomafloopaaGreatNb
import Derived.Test.YtbilnomafloopaaGreatNd
import Derived.Laws.AppendOwnNone
namespace Go.Proofs.YtbilnomafloopaaGreat
set_option maxRecDepth 100000
open Go.ChangeShapes Go.WideShapes Go.ChangeAt Go.RowKit
set_option linter.unusedVariables false
set_option linter.unusedSimpArgs false
/-- The name of an upload behind its bucket's, ahead of which stands what it is. -/
def nmU (bk : ByteArray) (id : Nat) : ByteArray := bk ++ ⟨#[10]⟩ ++ mk (oct id 8)
def itU (bk : ByteArray) (u : Upl) : Itm := ⟨⟨#[117]⟩ ++ nmU bk u.id, mk (lst [u.key])⟩
def itP (bk : ByteArray) (id : Nat) (p : Prt) : Itm := ⟨⟨#[112]⟩ ++ nmU bk id ++ mk (oct p.n.toNat 8), mk (lst [p.data])⟩
def uplI (bk : ByteArray) (u : Upl) : List Itm := itU bk u :: u.L.map (itP bk u.id)
theorem uplI_take (bk : ByteArray) (u : Upl) (i : Nat) (h : i < u.L.length) : itU bk u :: (u.L.take (i + 1)).map (itP bk u.id) = (itU bk u :: (u.L.take i).map (itP bk u.id)) ++ [itP bk u.id u.L[i]] := by
  rw [List.take_succ_eq_append_getElem h, List.map_append]; rfl
theorem oct_mk (n : Nat) : (mk (oct n 8)).size = 8 := by rw [mk_size, oct_length]
theorem okL_one {s : ByteArray} (h : s.size ≤ 4000) : okLZ [s] = true := okL_iffZ.2 ⟨by simp, fun x hx => by rw [List.mem_singleton] at hx; rw [hx]; exact h⟩
theorem nmU_size (bk : ByteArray) (id : Nat) : (nmU bk id).size = bk.size + 9 := by
  unfold nmU; rw [ByteArray.size_append, ByteArray.size_append, oct_mk]; rfl
theorem wp_snoc_itm {o : Oper} {a : Act} {K : Act → World → Prop} {Q : Exit → Act → World → Prop} (w : World) (s x : Operand) (t t2 : TypeId)
    (htt : Tryz.prog.underlying t = some (.slice 68)) (ho : o.op = .call { callee := .builtin .append, args := #[s, x], argTypes := #[t, t] })
    (base g : Nat) (v : Value) (l : List Itm) (y : Itm) {c : Nat} (hs : a.eval s = v) (hx : a.eval x = .slice (some ⟨g, 0, none⟩) 1 c) (hgg : ∀ j u, (icl y)[j]? = some u → w.cell? ((⟨g, 0, none⟩ : Addr).add j) = some u) (h : OwnI base w v l)
    (hb : base ≤ w.heap.size) (hl : l.length ≤ 4000000)
    (k : ∀ v' w', OwnI base w' v' (l ++ [y]) → w.grownBy w' v.ownBlock → K (a.put o.dst v') w') : o.wp Tryz.prog a w K Q := by
  obtain ⟨i0, hi0, hz0, hz1, hz2⟩ := info_parts info_itm
  obtain ⟨v', w', h1, h2, h3, -⟩ := run_append_own (P := Tryz.prog) w base t o.type 68 i0 (.agg #[.string ⟨#[]⟩, .string ⟨#[]⟩]) 2 32 htt hi0 hz0 hz1 hz2 rfl (by decide) v l.length (l.flatMap icl) h ⟨g, 0, none⟩ 1 c (icl y) rfl hgg (icl_one y) (by unfold maxLen; omega) (by omega) hb
  unfold Oper.wp execOp
  simp only [ho, resolve, invoke, builtin, Sem.run_bind, Sem.run_pure, Result.andThen_ok, List.map_toArray, List.map_cons, List.map_nil, hs, hx, h1]
  exact k v' w' (OwnI.onto (M := [y]) (by simpa using h2) rfl) h3
theorem lt_of_block_cell {w : World} {a : Addr} {v : Value} (h : w.cell? a = some v) : a.block < w.heap.size := by
  rcases Nat.lt_or_ge a.block w.heap.size with k | k
  · exact k
  · rw [World.cell?, Array.getElem?_eq_none k] at h; simp at h
set_option maxHeartbeats 8000000 in
theorem uplItems_any (bk : ByteArray) (u : Upl) (pv : Value) (w : World) (hb : bk.size ≤ 1000) (hk : u.key.size ≤ 4000) (hid : u.id < 18446744073709551616) (hl : u.L.length ≤ 100) (hp : ∀ p ∈ u.L, 0 ≤ p.n ∧ p.n ≤ 100000 ∧ p.data.size ≤ 4000) (ht : Prts w w.heap.size pv u.L) :
    Calls Tryz.prog 69 #[.string bk, .agg #[.int .u64 (u.id : Nat), .string u.key, pv]] w fun e w' => ∃ v', e = .returned v' ∧ OwnI w.heap.size w' v' (uplI bk u) ∧ Q w w' := by
  have C1 := Lib.hid (fun x => num_any u.id x hid)
  have C2 := Lib.hid (fun (x : World) (v : Value) (h : Txts x x.heap.size v [u.key]) => laid_any (⟨#[117]⟩ ++ nmU bk u.id) [u.key] v x (okL_one hk) (fun s hs => by rw [List.mem_singleton] at hs; rw [hs]; omega) (by simp) h)
  have HN : Hid (bk ++ ⟨#[10]⟩ ++ mk (oct u.id 8) = nmU bk u.id) := Lib.hid rfl
  have HIT : Hid (itU bk u = ⟨⟨#[117]⟩ ++ nmU bk u.id, mk (lst [u.key])⟩) := Lib.hid rfl
  have hns := nmU_size bk u.id
  have hos := oct_mk u.id
  obtain ⟨A, c, rfl, -, -, hok, hcells⟩ := ht
  have HC := Lib.hid hcells
  have HP := Lib.hid hp
  rw [itm] at C2
  simp only at C2
  obtain ⟨NM, hNM⟩ : ∃ z, z = nmU bk u.id := ⟨_, rfl⟩
  obtain ⟨NI, hNI⟩ : ∃ z, z = mk (oct u.id 8) := ⟨_, rfl⟩
  obtain ⟨V0, hV0⟩ : ∃ z, z = mk (lst [u.key]) := ⟨_, rfl⟩
  rw [← hNM] at C2 HN HIT hns
  rw [← hNI] at C1 HN hos
  rw [← hV0] at C2 HIT
  have HNM := Lib.hid hNM
  have n0 := Bx.new w 66 #[.int .u64 (u.id : Nat), .string u.key, .slice A u.L.length c]
  have q0 := (Q.refl w).alloc (.cells #[.int .u64 (u.id : Nat), .string u.key, .slice A u.L.length c] 66)
  have z1 : (bk ++ (⟨#[10]⟩ : ByteArray)).size = bk.size + 1 := by rw [ByteArray.size_append]; rfl
  clear hcells hok hp hNM hNI hV0
  go_enter Tryz.func69, Tryz.ntmps69
  go_wp2_with fail
  refine (C1.out _).mono ?_
  rintro e w1 ⟨rfl, q1⟩
  have n1 := n0.on q1
  have c1 := n1.cell 1
  have c2 := n1.cell 2
  simp only [List.getElem?_toArray, List.getElem?_cons_zero, List.getElem?_cons_succ] at c1 c2
  have q2 := q0.trans q1
  clear C1 n0 q0 q1
  go_wp2_with fail
  rw [HN.out]
  have tx := txts_one w1 u.key
  have q2b := q2.alloc (.cells #[.string u.key] 9)
  have n1b := n1.alloc (.cells #[.string u.key] 9)
  clear HN n1 c1
  refine (C2.out _ _ tx).mono ?_
  rintro e w2 ⟨rfl, q3⟩
  have q4 := q2b.trans q3
  have ow0 := own_one w2 w.heap.size (itU bk u) q4.size
  have n2 := (n1b.on q3).alloc (.cells #[.string (⟨#[117]⟩ ++ NM), .string V0] 68)
  rw [HIT.out] at ow0
  have ow : OwnI w.heap.size (w2.alloc (.cells #[.string (⟨#[117]⟩ ++ NM), .string V0] 68)) (.slice (some ⟨w2.heap.size, 0, none⟩) 1 1) [⟨⟨#[117]⟩ ++ NM, V0⟩] := ow0
  rw [← HIT.out] at ow
  have q5 := q4.alloc (.cells #[.string (⟨#[117]⟩ ++ NM), .string V0] 68)
  have c2 := n2.cell 2
  simp only [List.getElem?_toArray, List.getElem?_cons_zero, List.getElem?_cons_succ] at c2
  obtain ⟨g, hg⟩ : ∃ z, z = w2.heap.size := ⟨_, rfl⟩
  obtain ⟨y1, hy1⟩ : ∃ z, z = w2.alloc (.cells #[.string (⟨#[117]⟩ ++ NM), .string V0] 68) := ⟨_, rfl⟩
  rw [← hy1] at ow q5 c2
  rw [← hg] at ow
  clear C2 q2 q3 q4 ow0 q2b n1b n2 tx
  go_upto_region 3 with fail
  rw [← hy1, ← hg]
  clear hy1 hg
  have HO := Lib.hid ow
  have HQ := Lib.hid q5
  clear ow q5
  go_wp2_with fail
  go_loopw [6, 25] (fun O I wr => ∃ i : Nat, i ≤ u.L.length ∧ I = .int .i64 i ∧ OwnI w.heap.size wr O (itU bk u :: (u.L.take i).map (itP bk u.id)) ∧ Q w wr) (fun _ I _ => u.L.length - (intOf I).toNat)
  case atStart => exact ⟨0, Nat.zero_le _, rfl, HO.out, HQ.out⟩
  case round =>
    obtain ⟨i, hil, rfl, hown, hbel⟩ := hrel
    clear c2 HO HQ
    by_cases hlt : i < u.L.length
    · obtain ⟨a, hAa, ha, hat⟩ := HC.out i hlt
      subst hAa
      obtain ⟨c0, c1⟩ := hat.keep (by rw [add_block]; exact ha) fun p hp => hbel.cell hp
      have hy0 := HP.out _ (List.getElem_mem hlt)
      have HL := Lib.hid (uplI_take bk u i hlt)
      obtain ⟨y, hy⟩ : ∃ y, y = u.L[i] := ⟨_, rfl⟩
      rw [← hy] at c0 c1 hy0 HL
      clear hy hat
      have hilt : (i : Int) < (u.L.length : Int) := by omega
      obtain ⟨hy1, hy2, hy3⟩ := hy0
      have hyn : ((y.n.toNat : Nat) : Int) = y.n := Int.toNat_of_nonneg hy1
      have CN := Lib.hid (fun x => num_any y.n.toNat x (by omega))
      have CL := Lib.hid (fun (x : World) (v : Value) (h : Txts x x.heap.size v [y.data]) => laid_any (⟨#[112]⟩ ++ NM ++ mk (oct y.n.toNat 8)) [y.data] v x (okL_one hy3) (fun s hs => by rw [List.mem_singleton] at hs; rw [hs]; omega) (by simp) h)
      have HIP : Hid (itP bk u.id y = ⟨⟨#[112]⟩ ++ NM ++ mk (oct y.n.toNat 8), mk (lst [y.data])⟩) := Lib.hid (by rw [HNM.out]; rfl)
      rw [itm] at CL
      simp only at CL
      have hoy := oct_mk y.n.toNat
      obtain ⟨NJ, hNJ⟩ : ∃ z, z = mk (oct y.n.toNat 8) := ⟨_, rfl⟩
      obtain ⟨VJ, hVJ⟩ : ∃ z, z = mk (lst [y.data]) := ⟨_, rfl⟩
      rw [← hNJ] at CN CL HIP hoy
      rw [← hVJ] at CL HIP
      rw [hyn] at CN
      have z2 : ((⟨#[112]⟩ : ByteArray) ++ NM).size = bk.size + 10 := by rw [ByteArray.size_append, hns]; show 1 + (bk.size + 9) = _; omega
      have z3 : ((⟨#[112]⟩ : ByteArray) ++ NM ++ NJ).size = bk.size + 18 := by rw [ByteArray.size_append, z2, hoy]
      have KS : Hid (∀ b, Q (wr.alloc (.cells #[.int .i64 y.n, .string y.data] 88)) b → (fun w' => w'.cell? ⟨wr.heap.size, 0, none⟩ = some (.int .i64 y.n) ∧ w'.cell? ⟨wr.heap.size, 1, none⟩ = some (.string y.data) ∧ Q w w') b) := Lib.hid (by
        intro b q
        have n := (Bx.new wr 88 #[.int .i64 y.n, .string y.data]).on q
        have d0 := n.cell 0
        have d1 := n.cell 1
        simp only [List.getElem?_toArray, List.getElem?_cons_zero, List.getElem?_cons_succ] at d0 d1
        exact ⟨d0, d1, (hbel.alloc _).trans q⟩)
      have OW := Lib.hid hown
      obtain ⟨WB, hWB⟩ : ∃ z, z = wr.alloc (.cells #[.int .i64 y.n, .string y.data] 88) := ⟨_, rfl⟩
      have QB : Hid (Q wr WB) := Lib.hid (by rw [hWB]; exact (Q.refl wr).alloc _)
      rw [← hWB] at KS
      have hbs := hbel.size
      have hwr : IntKind.u64.wrap y.n = y.n := by rw [IntKind.wrap_u64]; omega
      clear hNJ hVJ hown HP
      go_upto_region 6 with fail
      rw [← hWB]
      clear hWB
      refine wp_region_held_drew (S := (fun w' => w'.cell? ⟨wr.heap.size, 0, none⟩ = some (.int .i64 y.n) ∧ w'.cell? ⟨wr.heap.size, 1, none⟩ = some (.string y.data) ∧ Q w w')) (by kernel_rfl) (KS.out _ (Q.refl WB).drew) (fun hHeld => ?_)
      refine tkV 0 ?_
      refine tkV 1 ?_
      refine tkV (hv := by (intro wx hSw; (try dsimp only at hSw); go_simp; rw [if_neg (by omega)])) 2 ?_
      refine tkV 3 ?_
      refine tkV 4 ?_
      refine tkV (v := .int .u64 y.n) (hv := by (intro wx hSw; (try dsimp only at hSw); go_simp)) 5 ?_
      refine tkV 8 ?_
      refine tkV 9 ?_
      refine aR [6, 10] ?_
      refine AllReadyH.cons (o := _) rfl (fun K hK => ?_) (AllReadyH.cons (o := _) rfl (fun K hK => ?_) AllReadyH.nil)
      · go_simp
        go_at_call 32
        refine (CN.out _).mono ?_
        rintro e w2 ⟨rfl, q2⟩
        have q3 := (Q.refl WB).drew.trans q2
        refine hK.out _ _ (KS.out _ q3) (fun hHeld2 => ?_)
        clear hK K
        refine pg ?_
        refine tkV (hv := by (intro wx hSw; (try dsimp only at hSw); go_simp; rw [if_neg (by omega)])) 7 ?_
        refine aR [10] ?_
        refine AllReadyH.cons (o := _) rfl (fun K hK => ?_) AllReadyH.nil
        go_simp
        have tx := txts_one w2 y.data
        have q3b := q3.alloc (.cells #[.string y.data] 9)
        refine hK.out _ _ (KS.out _ q3b) (fun hHeld3 => ?_)
        clear hK K
        refine pg ?_
        refine aR [11] ?_
        refine AllReadyH.cons (o := _) rfl (fun K hK => ?_) AllReadyH.nil
        go_simp
        go_at_call 31
        refine (CL.out _ _ tx).mono ?_
        rintro e w4 ⟨rfl, q4⟩
        have q5 := q3b.trans q4
        refine hK.out _ _ (KS.out _ q5) (fun hHeld4 => ?_)
        clear hK K
        refine pg ?_
        refine aR [12] ?_
        refine AllReadyH.cons (o := _) rfl (fun K hK => ?_) AllReadyH.nil
        go_simp
        have q6 := q5.alloc (.cells #[.string (⟨#[112]⟩ ++ NM ++ NJ), .string VJ] 68)
        refine hK.out _ _ (KS.out _ q6) (fun hHeld5 => ?_)
        clear hK K
        refine pg ?_
        refine aR [13] ?_
        refine AllReadyH.cons (o := _) rfl (fun K hK => ?_) AllReadyH.nil
        rw [if_pos (by rfl)]
        have o6 := (OwnI.on OW.out QB.out).on q6
        have S6 := KS.out _ q6
        have hv6 : wr.heap.size < (w4.alloc (.cells #[.string (⟨#[112]⟩ ++ NM ++ NJ), .string VJ] 68)).heap.size := lt_of_block_cell S6.1
        refine wp_snoc_itm _ (.tmp 29) (.tmp 41) 26 68 Tryz.underlying26 rfl w.heap.size w4.heap.size u6 (itU bk u :: (u.L.take i).map (itP bk u.id)) ⟨⟨#[112]⟩ ++ NM ++ NJ, VJ⟩ (by rfl) (by rfl) (cells_oneitm w4 ⟨⟨#[112]⟩ ++ NM ++ NJ, VJ⟩ 68) o6 ?hb ?hl ?_
        case hb => exact S6.2.2.size
        case hl => simp; omega
        intro v8 w8 o8 g8
        rw [← HIP.out, ← HL.out] at o8
        have hne : some wr.heap.size ≠ u6.ownBlock := fun e => by have := (World.ownsRow.lt OW.out _ e.symm).2; omega
        have hB := g8.block wr.heap.size hv6 hne
        have S8 : (fun w' => w'.cell? ⟨wr.heap.size, 0, none⟩ = some (.int .i64 y.n) ∧ w'.cell? ⟨wr.heap.size, 1, none⟩ = some (.string y.data) ∧ Q w w') w8 := ⟨(World.cell?_of_block hB).trans S6.1, (World.cell?_of_block hB).trans S6.2.1, Below.grown S6.2.2 g8 S6.2.2.size (fun k hk => (World.ownsRow.lt OW.out k hk).1)⟩
        refine hK.out _ _ S8 (fun hHeld6 => ?_)
        clear hK K
        refine pg ?_
        refine tkV 14 ?_
        refine wpAnyH_done (by kernel_rfl) ?_ _
        have q8 := S8.2.2
        clear hHeld hHeld2 hHeld3 hHeld4 hHeld5 hHeld6 S8 S6 hB o6 g8 hne
        go_wp2_with fail
        go_roundw
        case rel => exact ⟨i + 1, by omega, by go_num, o8, q8⟩
        case measure => simp [intOf]; omega
      · go_simp
        have tx : Txts (WB.drew.alloc (.cells #[.string y.data] 9)) (WB.drew.alloc (.cells #[.string y.data] 9)).heap.size (.slice (some ⟨WB.heap.size, 0, none⟩) 1 1) [y.data] := txts_one WB.drew y.data
        have q2 := (Q.refl WB).drew.alloc (.cells #[.string y.data] 9)
        refine hK.out _ _ (KS.out _ q2) (fun hHeld2 => ?_)
        clear hK K
        refine pg ?_
        refine aR [6] ?_
        refine AllReadyH.cons (o := _) rfl (fun K hK => ?_) AllReadyH.nil
        go_simp
        go_at_call 32
        refine (CN.out _).mono ?_
        rintro e w3 ⟨rfl, q3⟩
        have q3b := q2.trans q3
        refine hK.out _ _ (KS.out _ q3b) (fun hHeld3 => ?_)
        clear hK K
        refine pg ?_
        refine tkV (hv := by (intro wx hSw; (try dsimp only at hSw); go_simp; rw [if_neg (by omega)])) 7 ?_
        refine aR [11] ?_
        refine AllReadyH.cons (o := _) rfl (fun K hK => ?_) AllReadyH.nil
        go_simp
        go_at_call 31
        refine (CL.out _ _ (tx.on q3)).mono ?_
        rintro e w4 ⟨rfl, q4⟩
        have q5 := q3b.trans q4
        refine hK.out _ _ (KS.out _ q5) (fun hHeld4 => ?_)
        clear hK K
        refine pg ?_
        refine aR [12] ?_
        refine AllReadyH.cons (o := _) rfl (fun K hK => ?_) AllReadyH.nil
        go_simp
        have q6 := q5.alloc (.cells #[.string (⟨#[112]⟩ ++ NM ++ NJ), .string VJ] 68)
        refine hK.out _ _ (KS.out _ q6) (fun hHeld5 => ?_)
        clear hK K
        refine pg ?_
        refine aR [13] ?_
        refine AllReadyH.cons (o := _) rfl (fun K hK => ?_) AllReadyH.nil
        rw [if_pos (by rfl)]
        have o6 := (OwnI.on OW.out QB.out).on q6
        have S6 := KS.out _ q6
        have hv6 : wr.heap.size < (w4.alloc (.cells #[.string (⟨#[112]⟩ ++ NM ++ NJ), .string VJ] 68)).heap.size := lt_of_block_cell S6.1
        refine wp_snoc_itm _ (.tmp 29) (.tmp 41) 26 68 Tryz.underlying26 rfl w.heap.size w4.heap.size u6 (itU bk u :: (u.L.take i).map (itP bk u.id)) ⟨⟨#[112]⟩ ++ NM ++ NJ, VJ⟩ (by rfl) (by rfl) (cells_oneitm w4 ⟨⟨#[112]⟩ ++ NM ++ NJ, VJ⟩ 68) o6 ?hb ?hl ?_
        case hb => exact S6.2.2.size
        case hl => simp; omega
        intro v8 w8 o8 g8
        rw [← HIP.out, ← HL.out] at o8
        have hne : some wr.heap.size ≠ u6.ownBlock := fun e => by have := (World.ownsRow.lt OW.out _ e.symm).2; omega
        have hB := g8.block wr.heap.size hv6 hne
        have S8 : (fun w' => w'.cell? ⟨wr.heap.size, 0, none⟩ = some (.int .i64 y.n) ∧ w'.cell? ⟨wr.heap.size, 1, none⟩ = some (.string y.data) ∧ Q w w') w8 := ⟨(World.cell?_of_block hB).trans S6.1, (World.cell?_of_block hB).trans S6.2.1, Below.grown S6.2.2 g8 S6.2.2.size (fun k hk => (World.ownsRow.lt OW.out k hk).1)⟩
        refine hK.out _ _ S8 (fun hHeld6 => ?_)
        clear hK K
        refine pg ?_
        refine tkV 14 ?_
        refine wpAnyH_done (by kernel_rfl) ?_ _
        have q8 := S8.2.2
        clear hHeld hHeld2 hHeld3 hHeld4 hHeld5 hHeld6 S8 S6 hB o6 g8 hne
        go_wp2_with fail
        go_roundw
        case rel => exact ⟨i + 1, by omega, by go_num, o8, q8⟩
        case measure => simp [intOf]; omega
    · have h2 : ¬ (i : Int) < (u.L.length : Int) := by omega
      go_wp2_with fail
      go_ret
      have hfin : OwnI w.heap.size wr u6 (uplI bk u) := by rw [List.take_of_length_le (by omega)] at hown; exact hown
      exact ⟨_, rfl, hfin, hbel⟩
end Go.Proofs.YtbilnomafloopaaGreat

namespace Go.Proofs.YtbilnomafloopaaGreat
set_option maxRecDepth 100000
open Go.ChangeShapes Go.WideShapes Go.ChangeAt Go.RowKit
set_option linter.unusedVariables false
set_option linter.unusedSimpArgs false
/-- A version's name behind its bucket's and its key. -/
def nmV (bk key : ByteArray) (id : Nat) : ByteArray := ⟨#[118]⟩ ++ bk ++ ⟨#[10]⟩ ++ key ++ ⟨#[10]⟩ ++ mk (oct id 8)
def mkN (b : Bool) : Nat := if b = true then 1 else 0
def itV (bk key : ByteArray) (n : Nat) (v : Ver) : Itm := ⟨nmV bk key v.id, mk (lst [mk (oct n 8), mk (oct v.tm.toNat 8), mk (oct (mkN v.mark) 8), v.data])⟩
def entI (bk : ByteArray) (e : Ent) : List Itm := e.L.mapIdx fun i v => itV bk e.key (e.L.length - 1 - i) v
theorem entI_take (bk : ByteArray) (e : Ent) (i : Nat) (h : i < e.L.length) : (e.L.take (i + 1)).mapIdx (fun i v => itV bk e.key (e.L.length - 1 - i) v) = (e.L.take i).mapIdx (fun i v => itV bk e.key (e.L.length - 1 - i) v) ++ [itV bk e.key (e.L.length - 1 - i) e.L[i]] := by
  rw [List.take_succ_eq_append_getElem h, List.mapIdx_concat, List.length_take, Nat.min_eq_left (Nat.le_of_lt h)]
theorem txts_four (w : World) (a b c d : ByteArray) : Txts (w.alloc (.cells #[.string a, .string b, .string c, .string d] 9)) (w.alloc (.cells #[.string a, .string b, .string c, .string d] 9)).heap.size (.slice (some ⟨w.heap.size, 0, none⟩) 4 4) [a, b, c, d] := by
  refine ⟨some ⟨w.heap.size, 0, none⟩, 4, rfl, fun k hk => ⟨⟨w.heap.size, 0, none⟩, rfl, by simp, ?_⟩⟩
  have h4 : k < 4 := by simpa using hk
  have hc : k = 0 ∨ k = 1 ∨ k = 2 ∨ k = 3 := by omega
  rcases hc with rfl | rfl | rfl | rfl <;> simp [Addr.add]
set_option maxHeartbeats 1000000 in
theorem markNum_any (b : Bool) (w : World) : Calls Tryz.prog 110 #[.bool b] w fun e w' => e = .returned (.int .u64 (mkN b : Nat)) ∧ Q w w' := by
  cases b with
  | true =>
    go_enter Tryz.func110, Tryz.ntmps110
    go_wp2_with fail
    go_ret
    exact ⟨rfl, Q.refl _⟩
  | false =>
    go_enter Tryz.func110, Tryz.ntmps110
    go_wp2_with fail
    go_ret
    exact ⟨rfl, Q.refl _⟩
set_option maxHeartbeats 8000000 in
theorem verItems_any (bk : ByteArray) (e0 : Ent) (pv : Value) (w : World) (hb : bk.size ≤ 1000) (hk : e0.key.size ≤ 4000) (hl : e0.L.length ≤ 100) (hp : ∀ p ∈ e0.L, p.id < 18446744073709551616 ∧ 0 ≤ p.tm ∧ p.tm ≤ 9223372036854775807 ∧ p.data.size ≤ 4000) (ht : Vers w w.heap.size pv e0.L) :
    Calls Tryz.prog 68 #[.string bk, .agg #[.string e0.key, pv]] w fun e w' => ∃ v', e = .returned v' ∧ OwnI w.heap.size w' v' (entI bk e0) ∧ Q w w' := by
  obtain ⟨A, c, rfl, -, -, hok, hcells⟩ := ht
  have HC := Lib.hid hcells
  have HP := Lib.hid hp
  have n0 := Bx.new w 63 #[.string e0.key, .slice A e0.L.length c]
  have q0 := (Q.refl w).alloc (.cells #[.string e0.key, .slice A e0.L.length c] 63)
  clear hcells hok hp
  go_enter Tryz.func68, Tryz.ntmps68
  go_wp2_with fail
  go_loopw [5, 12] (fun O I wr => ∃ i : Nat, i ≤ e0.L.length ∧ I = .int .i64 i ∧ OwnI (w.heap.size + 1) wr O ((e0.L.take i).mapIdx (fun i v => itV bk e0.key (e0.L.length - 1 - i) v)) ∧ Bx wr w.heap.size 63 #[.string e0.key, .slice A e0.L.length c] ∧ Q w wr) (fun _ I _ => e0.L.length - (intOf I).toNat)
  case atStart => exact ⟨0, Nat.zero_le _, rfl, OwnI.nil _ _, n0, q0⟩
  case round =>
    obtain ⟨i, hil, rfl, hown, bx, hbel⟩ := hrel
    clear n0 q0
    by_cases hlt : i < e0.L.length
    · obtain ⟨a, hAa, ha, hat⟩ := HC.out i hlt
      subst hAa
      obtain ⟨c0, c1, c2, c3⟩ := hat.keep (by rw [add_block]; exact ha) fun p hp => hbel.cell hp
      have hy0 := HP.out _ (List.getElem_mem hlt)
      have HL := Lib.hid (entI_take bk e0 i hlt)
      obtain ⟨y, hy⟩ : ∃ y, y = e0.L[i] := ⟨_, rfl⟩
      rw [← hy] at c0 c1 c2 c3 hy0 HL
      clear hy hat
      have hilt : (i : Int) < (e0.L.length : Int) := by omega
      obtain ⟨hy1, hy2, hy3, hy4⟩ := hy0
      have hyn : ((y.tm.toNat : Nat) : Int) = y.tm := Int.toNat_of_nonneg hy2
      obtain ⟨bn, hbn⟩ : ∃ z : Nat, z = e0.L.length - 1 - i := ⟨_, rfl⟩
      rw [← hbn] at HL
      have hbi : (e0.L.length : Int) - 1 - (i : Int) = (bn : Int) := by omega
      have hbl : bn ≤ 100 := by omega
      have C1 := Lib.hid (fun x => num_any y.id x hy1)
      have C2 := Lib.hid (fun x => num_any bn x (by omega))
      have C3 := Lib.hid (fun x => num_any y.tm.toNat x (by omega))
      have C4 := Lib.hid (markNum_any y.mark)
      have C5 := Lib.hid (fun x => num_any (mkN y.mark) x (by unfold mkN; split <;> omega))
      have CL := Lib.hid (fun (x : World) (v : Value) (h : Txts x x.heap.size v [mk (oct bn 8), mk (oct y.tm.toNat 8), mk (oct (mkN y.mark) 8), y.data]) => laid_any (nmV bk e0.key y.id) [mk (oct bn 8), mk (oct y.tm.toNat 8), mk (oct (mkN y.mark) 8), y.data] v x (okL_iffZ.2 ⟨by simp, fun s hs => by simp only [List.mem_cons, List.not_mem_nil, or_false] at hs; rcases hs with rfl | rfl | rfl | rfl <;> (try rw [oct_mk]) <;> omega⟩) (fun s hs => by simp only [List.mem_cons, List.not_mem_nil, or_false] at hs; rcases hs with rfl | rfl | rfl | rfl <;> (try rw [oct_mk]) <;> omega) (by simp) h)
      have HIP : Hid (itV bk e0.key bn y = ⟨nmV bk e0.key y.id, mk (lst [mk (oct bn 8), mk (oct y.tm.toNat 8), mk (oct (mkN y.mark) 8), y.data])⟩) := Lib.hid rfl
      have HNM : Hid (⟨#[118]⟩ ++ bk ++ ⟨#[10]⟩ ++ e0.key ++ ⟨#[10]⟩ ++ mk (oct y.id 8) = nmV bk e0.key y.id) := Lib.hid rfl
      rw [itm] at CL
      simp only at CL
      have hoy := oct_mk y.id
      rw [hyn] at C3
      obtain ⟨X3, hX3⟩ : ∃ z, z = mk (oct y.tm.toNat 8) := ⟨_, rfl⟩
      rw [← hX3] at C3 CL HIP
      obtain ⟨NM, hNM⟩ : ∃ z, z = nmV bk e0.key y.id := ⟨_, rfl⟩
      obtain ⟨X1, hX1⟩ : ∃ z, z = mk (oct y.id 8) := ⟨_, rfl⟩
      obtain ⟨X2, hX2⟩ : ∃ z, z = mk (oct bn 8) := ⟨_, rfl⟩
      obtain ⟨M, hM⟩ : ∃ z, z = mkN y.mark := ⟨_, rfl⟩
      rw [← hM] at C4 C5 CL HIP
      obtain ⟨X5, hX5⟩ : ∃ z, z = mk (oct M 8) := ⟨_, rfl⟩
      obtain ⟨VJ, hVJ⟩ : ∃ z, z = mk (lst [X2, X3, X5, y.data]) := ⟨_, rfl⟩
      rw [← hX1] at C1 HNM hoy
      rw [← hX2] at C2 CL HIP
      rw [← hX5] at C5 CL HIP
      rw [← hVJ] at CL HIP
      rw [← hNM] at CL HIP HNM
      clear hNM hX1 hX2 hX3 hX5 hVJ hM hbn
      have z1 : ((⟨#[118]⟩ : ByteArray) ++ bk).size = bk.size + 1 := by rw [ByteArray.size_append]; show 1 + _ = _; omega
      have z2 : ((⟨#[118]⟩ : ByteArray) ++ bk ++ ⟨#[10]⟩).size = bk.size + 2 := by rw [ByteArray.size_append, z1]; rfl
      have z3 : ((⟨#[118]⟩ : ByteArray) ++ bk ++ ⟨#[10]⟩ ++ e0.key).size = bk.size + 2 + e0.key.size := by rw [ByteArray.size_append, z2]
      have z4 : ((⟨#[118]⟩ : ByteArray) ++ bk ++ ⟨#[10]⟩ ++ e0.key ++ ⟨#[10]⟩).size = bk.size + 3 + e0.key.size := by rw [ByteArray.size_append, z3]; show _ + 1 = _; omega
      have KS : Hid (∀ b, Q (wr.alloc (.cells #[.int .u64 (y.id : Nat), .string y.data, .bool y.mark, .int .i64 y.tm] 81)) b → (fun w' => w'.cell? ⟨wr.heap.size, 0, none⟩ = some (.int .u64 (y.id : Nat)) ∧ w'.cell? ⟨wr.heap.size, 1, none⟩ = some (.string y.data) ∧ w'.cell? ⟨wr.heap.size, 2, none⟩ = some (.bool y.mark) ∧ w'.cell? ⟨wr.heap.size, 3, none⟩ = some (.int .i64 y.tm) ∧ w'.cell? ⟨w.heap.size, 0, none⟩ = some (.string e0.key) ∧ Bx w' w.heap.size 63 #[.string e0.key, .slice (some a) e0.L.length c] ∧ Q w w') b) := Lib.hid (by
        intro b q
        have n := (Bx.new wr 81 #[.int .u64 (y.id : Nat), .string y.data, .bool y.mark, .int .i64 y.tm]).on q
        have e := (bx.alloc (.cells #[.int .u64 (y.id : Nat), .string y.data, .bool y.mark, .int .i64 y.tm] 81)).on q
        have d0 := n.cell 0
        have d1 := n.cell 1
        have d2 := n.cell 2
        have d3 := n.cell 3
        have e1 := e.cell 0
        simp only [List.getElem?_toArray, List.getElem?_cons_zero, List.getElem?_cons_succ] at d0 d1 d2 d3 e1
        exact ⟨d0, d1, d2, d3, e1, e, (hbel.alloc _).trans q⟩)
      have OW := Lib.hid hown
      have n2 := bx.alloc (.cells #[.int .u64 (y.id : Nat), .string y.data, .bool y.mark, .int .i64 y.tm] 81)
      have k0 := n2.cell 0
      have k1 := n2.cell 1
      simp only [List.getElem?_toArray, List.getElem?_cons_zero, List.getElem?_cons_succ] at k0 k1
      have bc := bx.cell 1
      simp only [List.getElem?_toArray, List.getElem?_cons_zero, List.getElem?_cons_succ] at bc
      obtain ⟨WB, hWB⟩ : ∃ z, z = wr.alloc (.cells #[.int .u64 (y.id : Nat), .string y.data, .bool y.mark, .int .i64 y.tm] 81) := ⟨_, rfl⟩
      have QB : Hid (Q wr WB) := Lib.hid (by rw [hWB]; exact (Q.refl wr).alloc _)
      rw [← hWB] at KS
      have hbs := hbel.size
      have hwr : IntKind.u64.wrap y.tm = y.tm := by rw [IntKind.wrap_u64]; omega
      have hwb : IntKind.u64.wrap (bn : Int) = (bn : Int) := by rw [IntKind.wrap_u64]; omega
      clear hown HP n2
      go_upto_region 6 with fail
      rw [← hWB]
      clear hWB
      refine wp_region_held_drew (S := (fun w' => w'.cell? ⟨wr.heap.size, 0, none⟩ = some (.int .u64 (y.id : Nat)) ∧ w'.cell? ⟨wr.heap.size, 1, none⟩ = some (.string y.data) ∧ w'.cell? ⟨wr.heap.size, 2, none⟩ = some (.bool y.mark) ∧ w'.cell? ⟨wr.heap.size, 3, none⟩ = some (.int .i64 y.tm) ∧ w'.cell? ⟨w.heap.size, 0, none⟩ = some (.string e0.key) ∧ Bx w' w.heap.size 63 #[.string e0.key, .slice (some a) e0.L.length c] ∧ Q w w')) (by kernel_rfl) (KS.out _ (Q.refl WB).drew) (fun hHeld => ?_)
      refine tkV 0 ?_
      refine tkV 1 ?_
      refine tkV (hv := by (intro wx hSw; (try dsimp only at hSw); go_simp; rw [if_neg (by omega)])) 2 ?_
      refine tkV (hv := by (intro wx hSw; (try dsimp only at hSw); go_simp; rw [if_neg (by omega)])) 3 ?_
      refine tkV 4 ?_
      refine tkV 5 ?_
      refine tkV (hv := by (intro wx hSw; (try dsimp only at hSw); go_simp; rw [if_neg (by omega)])) 6 ?_
      refine tkV (hv := by (intro wx hSw; (try dsimp only at hSw); go_simp; rw [if_neg (by omega)])) 7 ?_
      refine tkV 8 ?_
      refine tkV 9 ?_
      refine tkV 12 ?_
      refine tkV (v := .int .u64 bn) 13 ?_
      refine tkV 15 ?_
      refine tkV 16 ?_
      refine tkV (v := .int .u64 y.tm) 17 ?_
      refine tkV 19 ?_
      refine tkV 20 ?_
      refine tkV 23 ?_
      refine tkV 24 ?_
      refine aR [10] ?_
      refine AllReadyH.cons (o := _) rfl (fun K hK => ?_) AllReadyH.nil
      go_simp
      go_at_call 32
      refine (C1.out _).mono ?_
      rintro e w1 ⟨rfl, q1⟩
      have r1 := (Q.refl WB).drew.trans q1
      refine hK.out _ _ (KS.out _ r1) (fun hHeld1 => ?_)
      clear hK K
      refine pg ?_
      refine tkV (hv := by (intro wx hSw; (try dsimp only at hSw); go_simp; rw [if_neg (by omega)])) 11 ?_
      refine aR [14] ?_
      refine AllReadyH.cons (o := _) rfl (fun K hK => ?_) AllReadyH.nil
      go_simp
      go_at_call 32
      refine (C2.out _).mono ?_
      rintro e w2 ⟨rfl, q2⟩
      have r2 := r1.trans q2
      refine hK.out _ _ (KS.out _ r2) (fun hHeld2 => ?_)
      clear hK K
      refine pg ?_
      refine aR [18] ?_
      refine AllReadyH.cons (o := _) rfl (fun K hK => ?_) AllReadyH.nil
      go_simp
      go_at_call 32
      refine (C3.out _).mono ?_
      rintro e w3 ⟨rfl, q3⟩
      have r3 := r2.trans q3
      refine hK.out _ _ (KS.out _ r3) (fun hHeld3 => ?_)
      clear hK K
      refine pg ?_
      refine aR [21] ?_
      refine AllReadyH.cons (o := _) rfl (fun K hK => ?_) AllReadyH.nil
      go_simp
      go_at_call 110
      refine (C4.out _).mono ?_
      rintro e w4 ⟨rfl, q4⟩
      have r4 := r3.trans q4
      refine hK.out _ _ (KS.out _ r4) (fun hHeld4 => ?_)
      clear hK K
      refine pg ?_
      refine aR [22] ?_
      refine AllReadyH.cons (o := _) rfl (fun K hK => ?_) AllReadyH.nil
      go_simp
      go_at_call 32
      refine (C5.out _).mono ?_
      rintro e w5 ⟨rfl, q5⟩
      have r5 := r4.trans q5
      refine hK.out _ _ (KS.out _ r5) (fun hHeld5 => ?_)
      clear hK K
      refine pg ?_
      refine aR [25] ?_
      refine AllReadyH.cons (o := _) rfl (fun K hK => ?_) AllReadyH.nil
      go_simp
      rw [HNM.out]
      have tx := txts_four w5 X2 X3 X5 y.data
      have r6 := r5.alloc (.cells #[.string X2, .string X3, .string X5, .string y.data] 9)
      refine hK.out _ _ (KS.out _ r6) (fun hHeld6 => ?_)
      clear hK K
      refine pg ?_
      refine aR [26] ?_
      refine AllReadyH.cons (o := _) rfl (fun K hK => ?_) AllReadyH.nil
      go_simp
      go_at_call 31
      refine (CL.out _ _ tx).mono ?_
      rintro e w7 ⟨rfl, q7⟩
      have r7 := r6.trans q7
      refine hK.out _ _ (KS.out _ r7) (fun hHeld7 => ?_)
      clear hK K
      refine pg ?_
      refine aR [27] ?_
      refine AllReadyH.cons (o := _) rfl (fun K hK => ?_) AllReadyH.nil
      go_simp
      have r8 := r7.alloc (.cells #[.string NM, .string VJ] 68)
      refine hK.out _ _ (KS.out _ r8) (fun hHeld8 => ?_)
      clear hK K
      refine pg ?_
      refine aR [28] ?_
      refine AllReadyH.cons (o := _) rfl (fun K hK => ?_) AllReadyH.nil
      rw [if_pos (by rfl)]
      have o6 := (OwnI.on OW.out QB.out).on r8
      have S6 := KS.out _ r8
      have hv6 : wr.heap.size < (w7.alloc (.cells #[.string NM, .string VJ] 68)).heap.size := lt_of_block_cell S6.1
      have hv7 : w.heap.size < (w7.alloc (.cells #[.string NM, .string VJ] 68)).heap.size := lt_of_block_cell S6.2.2.2.2.1
      refine wp_snoc_itm _ (.tmp 23) (.tmp 50) 26 68 Tryz.underlying26 rfl (w.heap.size + 1) w7.heap.size u5 ((e0.L.take i).mapIdx (fun i v => itV bk e0.key (e0.L.length - 1 - i) v)) ⟨NM, VJ⟩ (by rfl) (by rfl) (cells_oneitm w7 ⟨NM, VJ⟩ 68) o6 ?hb ?hl ?_
      case hb => omega
      case hl => simp; omega
      intro v9 w9 o9 g9
      rw [← HIP.out, ← HL.out] at o9
      have hne : some wr.heap.size ≠ u5.ownBlock := fun e => by have := (World.ownsRow.lt OW.out _ e.symm).2; omega
      have hne2 : some w.heap.size ≠ u5.ownBlock := fun e => by have := (World.ownsRow.lt OW.out _ e.symm).1; omega
      have hB := g9.block wr.heap.size hv6 hne
      have hB2 := g9.block w.heap.size hv7 hne2
      have b9 := S6.2.2.2.2.2.1.same hB2
      have q9 : Q w w9 := Below.grown S6.2.2.2.2.2.2 g9 S6.2.2.2.2.2.2.size (fun k hk => by have := (World.ownsRow.lt OW.out k hk).1; omega)
      refine hK.out _ _ ⟨(World.cell?_of_block hB).trans S6.1, (World.cell?_of_block hB).trans S6.2.1, (World.cell?_of_block hB).trans S6.2.2.1, (World.cell?_of_block hB).trans S6.2.2.2.1, (World.cell?_of_block hB2).trans S6.2.2.2.2.1, b9, q9⟩ (fun hHeld9 => ?_)
      clear hK K
      refine pg ?_
      refine tkV 29 ?_
      refine wpAnyH_done (by kernel_rfl) ?_ _
      clear hHeld hHeld1 hHeld2 hHeld3 hHeld4 hHeld5 hHeld6 hHeld7 hHeld8 hHeld9 S6 hB hB2 o6 g9 hne hne2
      go_wp2_with fail
      go_roundw
      case rel => exact ⟨i + 1, by omega, by go_num, o9, b9, q9⟩
      case measure => simp [intOf]; omega
    · have h2 : ¬ (i : Int) < (e0.L.length : Int) := by omega
      go_wp2_with fail
      go_ret
      have hfin : OwnI (w.heap.size + 1) wr u5 (entI bk e0) := by rw [List.take_of_length_le (by omega)] at hown; exact hown
      exact ⟨_, rfl, OwnI.low hfin (by omega), hbel⟩
end Go.Proofs.YtbilnomafloopaaGreat

namespace Go.Proofs.YtbilnomafloopaaGreat
set_option maxRecDepth 100000
open Go.ChangeShapes Go.WideShapes Go.ChangeAt Go.RowKit
set_option linter.unusedVariables false
set_option linter.unusedSimpArgs false
/-- A depot. -/
structure Dep where
  now : Int
  L : List Bkt
/-- The bounds that whatever comes in keeps. -/
def okBk (b : Bkt) : Prop := b.name.size ≤ maxLen ∧ b.L.length ≤ maxLen ∧ b.U.length ≤ maxLen ∧ b.last < 18446744073709551616 ∧ -9223372036854775808 ≤ b.st ∧ b.st ≤ 9223372036854775807
/-- A bucket lies at p; its lists lie below block B. -/
def AtBk (w : World) (B : Nat) (p : Addr) (b : Bkt) : Prop :=
  w.cell? p = some (.string b.name) ∧ w.cell? ⟨p.block, p.off + 1, none⟩ = some (.int .i64 b.st) ∧ w.cell? ⟨p.block, p.off + 4, none⟩ = some (.int .u64 (b.last : Nat)) ∧
  ∃ lv uv, w.cell? ⟨p.block, p.off + 2, none⟩ = some lv ∧ w.cell? ⟨p.block, p.off + 3, none⟩ = some uv ∧ Ents w B lv b.L ∧ Upls w B uv b.U
/-- A slice whose elements are these buckets; all of it lies below block B. -/
def Bks (w : World) (B : Nat) (v : Value) (l : List Bkt) : Prop :=
  ∃ A c, v = .slice A l.length c ∧ l.length ≤ c ∧ (A = none → c = 0) ∧ (∀ x ∈ l, okBk x) ∧ ∀ k (h : k < l.length), ∃ a : Addr, A = some a ∧ a.block < B ∧ AtBk w B (a.add (k * 5)) l[k]
theorem AtBk.below {w w' : World} {B : Nat} {p : Addr} {b : Bkt} (h : AtBk w B p b) (hp : p.block < B) (k : Below B w w') : AtBk w' B p b := by
  obtain ⟨h0, h1, h4, lv, uv, h2, h3, h5, h6⟩ := h
  have c : ∀ j, w'.cell? ⟨p.block, j, none⟩ = w.cell? ⟨p.block, j, none⟩ := fun j => k.cell (p := ⟨p.block, j, none⟩) hp
  exact ⟨(k.cell hp).trans h0, (c _).trans h1, (c _).trans h4, lv, uv, (c _).trans h2, (c _).trans h3, h5.below k, h6.below k⟩
theorem AtBk.more {w : World} {B B' : Nat} {p : Addr} {b : Bkt} (h : AtBk w B p b) (k : B ≤ B') : AtBk w B' p b := by
  obtain ⟨h0, h1, h4, lv, uv, h2, h3, h5, h6⟩ := h
  exact ⟨h0, h1, h4, lv, uv, h2, h3, h5.more k, h6.more k⟩
theorem Bks.below {w w' : World} {B : Nat} {v : Value} {l : List Bkt} (h : Bks w B v l) (k : Below B w w') : Bks w' B v l := by
  obtain ⟨A, c, e, e0, ez, eo, f⟩ := h
  refine ⟨A, c, e, e0, ez, eo, fun i hi => ?_⟩
  obtain ⟨a, e1, e2, e3⟩ := f i hi
  exact ⟨a, e1, e2, e3.below (by rw [add_block]; exact e2) k⟩
theorem Bks.more {w : World} {B B' : Nat} {v : Value} {l : List Bkt} (h : Bks w B v l) (k : B ≤ B') : Bks w B' v l := by
  obtain ⟨A, c, e, e0, ez, eo, f⟩ := h
  refine ⟨A, c, e, e0, ez, eo, fun i hi => ?_⟩
  obtain ⟨a, e1, e2, e3⟩ := f i hi
  exact ⟨a, e1, by omega, e3.more k⟩
theorem Bks.on {w w' : World} {v : Value} {l : List Bkt} (h : Bks w w.heap.size v l) (k : Q w w') : Bks w' w'.heap.size v l := (h.below k).more k.size
theorem Bks.nil (w : World) (B : Nat) : Bks w B (.slice none 0 0) [] := ⟨none, 0, rfl, Nat.le_refl _, fun _ => rfl, by simp, fun k h => absurd h (by simp)⟩
theorem Bks.okAll {w : World} {B : Nat} {v : Value} {l : List Bkt} (h : Bks w B v l) : ∀ x ∈ l, okBk x := by
  obtain ⟨A, c, e, e0, ez, eo, f⟩ := h; exact eo
theorem Bks.form {w : World} {B : Nat} {v : Value} {l : List Bkt} (h : Bks w B v l) : ∃ A c, v = .slice A l.length c := by
  obtain ⟨A, c, e, -⟩ := h; exact ⟨A, c, e⟩
/-- One of a slice, as it lies in every later world. -/
theorem Bks.pick {w : World} {v : Value} {l : List Bkt} (h : Bks w w.heap.size v l) (i : Nat) (hi : i < l.length) :
    ∃ (a : Addr) (c : Nat) (lv uv : Value), v = .slice (some a) l.length c ∧ a.block < w.heap.size ∧ okBk l[i] ∧ BktV w l[i] lv uv ∧
    ∀ d, Q w d → d.cell? (a.add (i * 5)) = some (.string l[i].name) ∧ d.cell? ⟨(a.add (i * 5)).block, (a.add (i * 5)).off + 1, none⟩ = some (.int .i64 l[i].st) ∧ d.cell? ⟨(a.add (i * 5)).block, (a.add (i * 5)).off + 2, none⟩ = some lv ∧
      d.cell? ⟨(a.add (i * 5)).block, (a.add (i * 5)).off + 3, none⟩ = some uv ∧ d.cell? ⟨(a.add (i * 5)).block, (a.add (i * 5)).off + 4, none⟩ = some (.int .u64 (l[i].last : Nat)) := by
  obtain ⟨A, c, rfl, -, -, eo, f⟩ := h
  obtain ⟨a, rfl, ha, h0, h1, h4, lv, uv, h2, h3, h5, h6⟩ := f i hi
  have hb : (a.add (i * 5)).block < w.heap.size := by rw [add_block]; exact ha
  refine ⟨a, c, lv, uv, rfl, ha, eo _ (List.getElem_mem hi), ⟨h5, h6⟩, fun d q => ?_⟩
  have k : ∀ j, d.cell? ⟨(a.add (i * 5)).block, j, none⟩ = w.cell? ⟨(a.add (i * 5)).block, j, none⟩ := fun j => q.cell (p := ⟨(a.add (i * 5)).block, j, none⟩) hb
  exact ⟨(q.cell hb).trans h0, (k _).trans h1, (k _).trans h2, (k _).trans h3, (k _).trans h4⟩
theorem cells_bk : Tryz.prog.cellsOf 60 = 5 := by kernel_rfl
theorem info_bk : (Tryz.prog.info? 60).map (fun i => (i.zero, i.size, i.bytes)) = some (some (.agg #[.string ⟨#[]⟩, .int .i64 0, .slice none 0 0, .slice none 0 0, .int .u64 0]), 5, 80) := by kernel_rfl
/-- What a row of buckets is made of: each bucket with the values of its lists. -/
structure Bkp where
  b : Bkt
  lv : Value
  uv : Value
def kcl (p : Bkp) : List Value := [.string p.b.name, .int .i64 p.b.st, p.lv, p.uv, .int .u64 (p.b.last : Nat)]
def sliceV (v : Value) : Prop := ∃ A n c, v = .slice A n c
theorem flat_atK (P : List Bkp) (k : Nat) (h : k < P.length) {j : Nat} (hj : j < 5) : (P.flatMap kcl)[k * 5 + j]? = (kcl P[k])[j]? := by
  induction P generalizing k with
  | nil => simp at h
  | cons x r ih =>
    rw [List.flatMap_cons]
    cases k with
    | zero => rw [List.getElem?_append_left (by rw [show (kcl x).length = 5 by rfl]; omega)]; simp
    | succ k =>
      rw [List.getElem?_append_right (by rw [show (kcl x).length = 5 by rfl]; omega), show (k + 1) * 5 + j - (kcl x).length = k * 5 + j by rw [show (kcl x).length = 5 by rfl]; omega, ih k (by simpa using h)]
      rfl
theorem kcl_one {p : Bkp} (h : sliceV p.lv) (k : sliceV p.uv) : ∀ u ∈ kcl p, u.oneCell' = true := by
  obtain ⟨A, n, c, e⟩ := h
  obtain ⟨A2, n2, c2, e2⟩ := k
  intro u hu
  simp [kcl] at hu
  rcases hu with rfl | rfl | rfl | rfl | rfl
  · rfl
  · rfl
  · rw [e]; rfl
  · rw [e2]; rfl
  · rfl
/-- v is a row of the call's own, from block base on, of these buckets. -/
def RowK (base : Nat) (w : World) (v : Value) (P : List Bkp) : Prop := w.ownsRow base 60 5 v P.length (P.flatMap kcl)
/-- A row of buckets of the call's own; their lists lie anywhere. -/
def OwnK (base : Nat) (w : World) (v : Value) (l : List Bkt) : Prop := ∃ P : List Bkp, P.map (·.b) = l ∧ RowK base w v P ∧ ∀ p ∈ P, okBk p.b ∧ BktV w p.b p.lv p.uv
theorem BktV.slices {w : World} {b : Bkt} {lv uv : Value} (h : BktV w b lv uv) : sliceV lv ∧ sliceV uv := by
  obtain ⟨A, c, e⟩ := h.1.form
  obtain ⟨A2, c2, e2⟩ := h.2.form
  exact ⟨⟨A, _, c, e⟩, ⟨A2, _, c2, e2⟩⟩
theorem OwnK.nil (base : Nat) (w : World) : OwnK base w (.slice none 0 0) [] := ⟨[], rfl, World.ownsRow_nil w _ _ _, by simp⟩
theorem RowK.on {base : Nat} {w w' : World} {v : Value} {P : List Bkp} (h : RowK base w v P) (q : Q w w') : RowK base w' v P := by
  rcases h.2 with ⟨rfl, h0⟩ | ⟨g, cap, cur, rfl, hb, hg, h1, h2, h3, h4⟩
  · exact ⟨h.1, .inl ⟨rfl, h0⟩⟩
  · exact ⟨h.1, .inr ⟨g, cap, cur, rfl, hb, (q.block g (lt_of_block hg)).trans hg, h1, h2, h3, h4⟩⟩
theorem OwnK.on {base : Nat} {w w' : World} {v : Value} {l : List Bkt} (h : OwnK base w v l) (q : Q w w') : OwnK base w' v l := by
  obtain ⟨P, e, r, f⟩ := h
  exact ⟨P, e, r.on q, fun p hp => ⟨(f p hp).1, (f p hp).2.on q⟩⟩
theorem OwnK.form {base : Nat} {w : World} {v : Value} {l : List Bkt} (h : OwnK base w v l) : ∃ A c, v = .slice A l.length c := by
  obtain ⟨P, rfl, r, -⟩ := h
  rw [List.length_map]
  rcases r.2 with ⟨rfl, h0⟩ | ⟨g, cap, cur, rfl, -⟩
  · exact ⟨none, 0, by rw [h0]⟩
  · exact ⟨_, _, rfl⟩
theorem OwnK.read {base : Nat} {w : World} {v : Value} {l : List Bkt} (h : OwnK base w v l) : Bks w w.heap.size v l := by
  obtain ⟨P, rfl, r, f⟩ := h
  have ok : ∀ x ∈ P.map (·.b), okBk x := by
    intro x hx
    obtain ⟨p, hp, rfl⟩ := List.mem_map.1 hx
    exact (f p hp).1
  have r0 : w.ownsRow base 60 5 v P.length (P.flatMap kcl) := r
  rcases r.2 with ⟨rfl, h0⟩ | ⟨g, cap, cur, rfl, hb, hg, h1, h2, h3, h4⟩
  · rw [List.length_eq_zero_iff.1 h0]; exact Bks.nil _ _
  · refine ⟨_, _, by rw [List.length_map], by rw [List.length_map]; exact h1, (by simp), ok, fun k hk => ⟨⟨g, 0, none⟩, rfl, lt_of_block hg, ?_⟩⟩
    have hk2 : k < P.length := by simpa using hk
    have hc : ∀ j, j < 5 → w.cell? ((⟨g, 0, none⟩ : Addr).add (k * 5 + j)) = (kcl P[k])[j]? := by
      intro j hj
      have := flat_atK P k hk2 hj
      obtain ⟨u, hu⟩ : ∃ u, (kcl P[k])[j]? = some u := ⟨_, List.getElem?_eq_getElem (by rw [show (kcl P[k]).length = 5 by rfl]; exact hj)⟩
      rw [hu] at this ⊢
      exact World.ownsRow.cells r0 (g := g) rfl _ _ this
    have ha : ∀ j, 0 < j → (⟨g, 0, none⟩ : Addr).add (k * 5 + j) = ⟨((⟨g, 0, none⟩ : Addr).add (k * 5)).block, ((⟨g, 0, none⟩ : Addr).add (k * 5)).off + j, none⟩ := by
      intro j hj
      rw [add_pos _ (by omega), add_block]
      unfold Addr.add
      split
      · rename_i h0; simp [h0]
      · simp [Nat.add_assoc]
    have fv := f _ (List.getElem_mem hk2)
    have eb : (P.map (·.b))[k] = P[k].b := by simp
    rw [eb]
    refine ⟨hc 0 (by omega), ?_, ?_, P[k].lv, P[k].uv, ?_, ?_, fv.2.1, fv.2.2⟩
    · rw [← ha 1 (by omega)]; exact hc 1 (by omega)
    · rw [← ha 4 (by omega)]; exact hc 4 (by omega)
    · rw [← ha 2 (by omega)]; exact hc 2 (by omega)
    · rw [← ha 3 (by omega)]; exact hc 3 (by omega)
end Go.Proofs.YtbilnomafloopaaGreat

