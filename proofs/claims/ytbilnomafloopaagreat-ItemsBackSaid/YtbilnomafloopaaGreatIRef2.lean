/-
  Contracts of the document's last and With.
-/
import Derived.Test.YtbilnomafloopaaGreatIPlain2
import Derived.Deep.DeepCutAuto
namespace Go.Proofs.YtbilnomafloopaaGreat
set_option maxRecDepth 100000
open Go.ChangeShapes Go.WideShapes Go.ChangeAt Go.RowKit
set_option linter.unusedVariables false
set_option linter.unusedSimpArgs false

set_option maxHeartbeats 4000000 in
theorem rlast_any (l : List Itm) (k s : ByteArray) (b : Bool) (v : Value) (w : World) (hL : LastI l k s b) (hl : l.length ≤ 1000) (ht : Itms w w.heap.size v l) :
    Calls Tryz.prog 47 #[v, .string k] w fun e w' => e = .returned (.tuple #[.string s, .bool b]) ∧ D w w' := by
  obtain ⟨A, c, rfl, -, -, hok, hcells⟩ := ht
  have HC := Lib.hid hcells
  have HL := Lib.hid hL
  clear hcells hok hL
  go_enter Tryz.func47, Tryz.ntmps47
  go_wp2_with fail
  go_loopw [6] (fun I wr => ∃ (z : Int) (j : Nat), j ≤ l.length ∧ z + 1 = j ∧ I = .int .i64 z ∧ D w wr ∧ Hid (∀ m (h : m < l.length), j ≤ m → l[m].n ≠ k)) (fun I _ => (intOf I + 1).toNat)
  case atStart => exact ⟨(l.length : Int) - 1, l.length, Nat.le_refl _, by omega, by go_num, D.refl _, Lib.hid (fun m h hm => by omega)⟩
  case round =>
    obtain ⟨z, j, hj, hz, rfl, d, HN⟩ := hrel
    by_cases h0 : j = 0
    · have hz2 : ¬ (0 : Int) ≤ z := by omega
      have HV : Hid (b = false ∧ s = ⟨#[]⟩) := Lib.hid (by
        rcases HL.out with ⟨-, i, hi, e, -⟩ | ⟨h1, h2, -⟩
        · exact absurd (by rw [e]) (HN.out i hi (by omega))
        · exact ⟨h1, h2⟩)
      obtain ⟨m, rfl⟩ := d
      clear HL
      obtain ⟨rfl, rfl⟩ := HV.out
      go_wp2_with fail
      go_ret2
      exact ⟨rfl, ⟨m, rfl⟩⟩
    · obtain ⟨i, rfl⟩ : ∃ i : Nat, z = i := ⟨j - 1, by omega⟩
      obtain rfl : j = i + 1 := by omega
      have hlt : i < l.length := by omega
      have hz2 : (0 : Int) ≤ (i : Int) := by omega
      have hz3 : (i : Int) < (l.length : Int) := by omega
      obtain ⟨a, rfl, ha, hat⟩ := HC.out i hlt
      obtain ⟨m, rfl⟩ := d
      obtain ⟨c0, c1⟩ := hat
      obtain ⟨y, hy⟩ : ∃ y, y = l[i] := ⟨_, rfl⟩
      rw [← hy] at c0 c1
      by_cases he : y.n = k
      · have HV : Hid (b = true ∧ s = y.val) := Lib.hid (by
          rcases HL.out with ⟨h1, q, hq, e, hn⟩ | ⟨-, -, h3⟩
          · have hqi : q = i := by
              rcases Nat.lt_trichotomy q i with h | h | h
              · exact absurd (by rw [← hy]; exact he) (hn i hlt h)
              · exact h
              · exact absurd (by rw [e]) (HN.out q hq h)
            subst hqi
            rw [← hy] at e
            exact ⟨h1, by rw [e]⟩
          · exact absurd (by rw [← hy]; exact he) (h3 _ (List.getElem_mem hlt)))
        obtain ⟨h1, h2⟩ := HV.out
        have HB := Lib.hid h1
        have HSV := Lib.hid h2
        have he2 : (y.n.toList == k.toList) = true := by rw [he]; simp
        clear h1 h2 HL HN hy HV he
        go_wp2_with fail
        (try simp only [Exit.inBlock, Exit.then])
        go_ret2
        refine ⟨?_, ⟨m, rfl⟩⟩
        rw [HB.out, HSV.out]
        rfl
      · have HN2 : Hid (∀ q (h : q < l.length), i ≤ q → l[q].n ≠ k) := Lib.hid (fun q h hq => by
          by_cases e : q = i
          · subst e; rw [← hy]; exact he
          · exact HN.out q h (by omega))
        have he2 : (y.n.toList == k.toList) = false := key_ne he
        clear hy HN he
        go_wp2_with fail
        go_roundw
        case rel => exact ⟨(i : Int) - 1, i, by omega, by omega, by go_num, ⟨m, rfl⟩, HN2⟩
        case measure => simp [intOf]
set_option maxHeartbeats 16000000 in
theorem rwith_any (l : List Itm) (c : List Chg) (lv cv : Value) (w : World) (hl : l.length ≤ 60) (hc : c.length ≤ 60) (hs : ∀ x ∈ l, okI x) (ht : Itms w w.heap.size lv l) (hk : Chgs w w.heap.size cv c) :
    Calls Tryz.prog 23 #[lv, cv] w fun e w' => ∃ v', e = .returned v' ∧ OwnI w.heap.size w' v' (withI l c) ∧ Q w w' := by
  obtain ⟨A, c1, rfl, -, -, hok, hcells⟩ := ht
  obtain ⟨B, c2, rfl, -, -, hok2, hcells2⟩ := hk
  have HC := Lib.hid hcells
  have HD := Lib.hid hcells2
  have HK2 := Lib.hid hok2
  have HI0 : Hid (∀ i, ∀ x ∈ ofI (l.take i), okI x) := Lib.hid (fun i x hx => hs x (List.mem_of_mem_take (ofI_sub hx)))
  have HI1 : Hid (∀ i, ∀ x ∈ (c.take i).foldl stepC (ofI l), okI x) := Lib.hid (fun i => foldC_all (p := fun n v => n.size ≤ maxLen ∧ v.size ≤ maxLen) (fun x hx => hs x (ofI_sub hx)) (fun x hx => by have := hok2 x (List.mem_of_mem_take hx); exact ⟨this.1, this.2.1⟩))
  have HLN : Hid (∀ i, (ofI (l.take i)).length ≤ 60) := Lib.hid (fun i => by have := ofI_len (l.take i); rw [List.length_take] at this; omega)
  have HLM : Hid (∀ i, ((c.take i).foldl stepC (ofI l)).length ≤ 120) := Lib.hid (fun i => by have := foldC_len (c.take i) (ofI l); have := ofI_len l; rw [List.length_take] at *; omega)
  have HS := Lib.hid hs
  clear hcells hcells2 hok hok2 hs
  go_enter Tryz.func23, Tryz.ntmps23
  go_wp2_with fail
  go_loopw [5, 6] (fun O I wr => ∃ i : Nat, i ≤ l.length ∧ I = .int .i64 i ∧ OwnI w.heap.size wr O (ofI (l.take i)) ∧ Q w wr) (fun _ I _ => l.length - (intOf I).toNat)
  case atStart => exact ⟨0, Nat.zero_le _, rfl, OwnI.nil _ _, Q.refl _⟩
  case round =>
    obtain ⟨i, hil, rfl, hown, hbel⟩ := hrel
    have hz := hbel.size
    by_cases hlt : i < l.length
    · obtain ⟨a, hAa, ha, hat⟩ := HC.out i hlt
      subst hAa
      obtain ⟨c0, c1⟩ := hat.keep (by rw [add_block]; exact ha) fun p hp => hbel.cell hp
      have HW := Lib.hid (ofI_take l i hlt)
      have hy0 := HS.out _ (List.getElem_mem hlt)
      obtain ⟨y, hy⟩ : ∃ y, y = l[i] := ⟨_, rfl⟩
      rw [← hy] at c0 c1 HW hy0
      clear hy hat
      have hilt : (i : Int) < (l.length : Int) := by omega
      have hrd := OwnI.read hown (HI0.out i)
      have hln := HLN.out i
      have C := Lib.hid (rin_any _ y _ wr (by omega) hy0 hrd)
      rw [itm] at C
      clear hrd hy0
      go_wp2_with fail
      refine (C.out).mono ?_
      rintro e w1 ⟨v1, rfl, o1, q1⟩
      rw [← HW.out] at o1
      go_wp2_with fail
      go_roundw
      case rel => exact ⟨i + 1, by omega, by go_num, OwnI.low o1 hz, hbel.trans q1⟩
      case measure => simp [intOf]; omega
    · have h2 : ¬ (i : Int) < (l.length : Int) := by omega
      rw [List.take_of_length_le (by omega)] at hown
      have hown0 : OwnI w.heap.size wr u5 ((c.take 0).foldl stepC (ofI l)) := hown
      clear hown
      go_wp2_with fail
      go_loopw [5, 7] (fun O I wr => ∃ i : Nat, i ≤ c.length ∧ I = .int .i64 i ∧ OwnI w.heap.size wr O ((c.take i).foldl stepC (ofI l)) ∧ Q w wr) (fun _ I _ => c.length - (intOf I).toNat)
      case atStart => exact ⟨0, Nat.zero_le _, rfl, hown0, hbel⟩
      case round =>
        clear hown0 hbel hz h2 hlt hil
        obtain ⟨i, hil, rfl, hown, hbel⟩ := hrel
        have hz := hbel.size
        by_cases hlt : i < c.length
        · obtain ⟨a, hAa, ha, hat⟩ := HD.out i hlt
          subst hAa
          have hq := hat.keep (by rw [add_block]; exact ha) fun p hp => hbel.cell hp
          have HW := Lib.hid (withI_take l c i hlt)
          have hy0 := HK2.out _ (List.getElem_mem hlt)
          obtain ⟨y, hy⟩ : ∃ y, y = c[i] := ⟨_, rfl⟩
          rw [← hy] at hq HW hy0
          clear hy hat
          have hilt : (i : Int) < (c.length : Int) := by omega
          have hrd := OwnI.read hown (HI1.out i)
          have hln := HLM.out i
          have ho1 : okI ⟨y.n, y.val⟩ := ⟨hy0.1, hy0.2.1⟩
          have C : Hid (∀ x, Q wr x → Calls Tryz.prog 40 #[u5, .agg #[.string y.n, .string y.val]] x fun e w' => ∃ v', e = .returned v' ∧ OwnI x.heap.size w' v' (inG Itm.n ((c.take i).foldl stepC (ofI l)) ⟨y.n, y.val⟩) ∧ Q x w') := Lib.hid (fun x q => rin_any _ ⟨y.n, y.val⟩ _ x (by omega) ho1 (hrd.on q))
          have HQ := Lib.hid hq
          have KS : Hid (∀ b, Q wr b → (fun w' => w'.cell? (a.add (i * 3)) = some (.string y.n) ∧ w'.cell? ⟨(a.add (i * 3)).block, (a.add (i * 3)).off + 1, none⟩ = some (.string y.val) ∧ w'.cell? ⟨(a.add (i * 3)).block, (a.add (i * 3)).off + 2, none⟩ = some (.bool y.gone) ∧ Q wr w') b) := Lib.hid (by
            intro b q
            obtain ⟨k0, k1, k2⟩ := HQ.out.keep (B := wr.heap.size) (by rw [add_block]; omega) fun _ hp => q.cell hp
            exact ⟨k0, k1, k2, q⟩)
          have SN := Lib.hid (KS.out _ (Q.refl wr).drew)
          clear hrd hq
          have hz2 := hown.form
          clear hown
          go_wp2_with fail
          refine wp_region_held_drew (S := (fun w' => w'.cell? (a.add (i * 3)) = some (.string y.n) ∧ w'.cell? ⟨(a.add (i * 3)).block, (a.add (i * 3)).off + 1, none⟩ = some (.string y.val) ∧ w'.cell? ⟨(a.add (i * 3)).block, (a.add (i * 3)).off + 2, none⟩ = some (.bool y.gone) ∧ Q wr w')) (by kernel_rfl) SN.out (fun hHeld => ?_)
          refine tkV 0 ?_
          refine tkV 1 ?_
          refine tkV 2 ?_
          refine tkV 3 ?_
          refine tkV 4 ?_
          refine tkV 5 ?_
          refine tkV 6 ?_
          refine tkV 7 ?_
          refine tkV 8 ?_
          refine tkV 9 ?_
          refine tkV 10 ?_
          refine tkV 11 ?_
          refine aR [12] ?_
          refine AllReadyH.cons (o := _) rfl (fun K hK => ?_) AllReadyH.nil
          go_simp
          go_at_call 40
          refine (C.out _ hHeld.2.2.2).mono ?_
          rintro e w1 ⟨v1, rfl, o1, q1⟩
          have q2 := hHeld.2.2.2.trans q1
          have hS := KS.out _ q2
          refine hK.out _ _ hS (fun hHeld2 => ?_)
          clear hK K
          refine pg ?_
          refine tkV 13 ?_
          refine wpAnyH_done (by kernel_rfl) ?_ _
          obtain ⟨k0, k1, k2, -⟩ := hS
          have hz3 := q1.size
          have o2 := OwnI.low o1 (b2 := w.heap.size) (by have := hHeld.2.2.2.size; omega)
          have q3 := hbel.trans q2
          clear hHeld hHeld2 SN KS C q1 q2 o1 hbel HQ
          have HGL : Hid (∀ G, G = inG Itm.n ((c.take i).foldl stepC (ofI l)) ⟨y.n, y.val⟩ → G.length ≤ 121) := Lib.hid (fun G h => by rw [h]; have := inG_len Itm.n ((c.take i).foldl stepC (ofI l)) ⟨y.n, y.val⟩; omega)
          have HGO : Hid (∀ G, G = inG Itm.n ((c.take i).foldl stepC (ofI l)) ⟨y.n, y.val⟩ → ∀ x ∈ G, okI x) := Lib.hid (fun G h x hx => by
            rw [h] at hx
            rcases inG_mem.1 hx with rfl | ⟨k, -⟩
            · exact ho1
            · exact HI1.out i x k)
          have HW1 : Hid (∀ G, G = inG Itm.n ((c.take i).foldl stepC (ofI l)) ⟨y.n, y.val⟩ → (c.take (i + 1)).foldl stepC (ofI l) = if y.gone = true then G.filter (fun z => decide (z.n ≠ y.n)) else G) := Lib.hid (fun G h => by rw [HW.out, h]; rfl)
          obtain ⟨G, hG⟩ : ∃ G, G = inG Itm.n ((c.take i).foldl stepC (ofI l)) ⟨y.n, y.val⟩ := ⟨_, rfl⟩
          have hGL := HGL.out G hG
          have HGK := Lib.hid (HGO.out G hG)
          have HWG := Lib.hid (HW1.out G hG)
          rw [← hG] at o2
          clear hG HGL HGO HW1 HW hln ho1 hz hz2 hz3
          cases hgn : y.gone with
          | false =>
            rw [hgn] at k2
            have HWF : Hid ((c.take (i + 1)).foldl stepC (ofI l) = G) := Lib.hid (by rw [HWG.out, if_neg (by rw [hgn]; decide)])
            rw [← HWF.out] at o2
            clear HWG hgn
            go_wp2_with fail
            go_roundw
            case rel => exact ⟨i + 1, by omega, by go_num, o2, q3⟩
            case measure => simp [intOf]; omega
          | true =>
            rw [hgn] at k2
            have HWF : Hid ((c.take (i + 1)).foldl stepC (ofI l) = G.filter (fun z => decide (z.n ≠ y.n))) := Lib.hid (by rw [HWG.out, if_pos hgn])
            clear HWG hgn
            have hrd := OwnI.read o2 HGK.out
            have hb1 := q3.size
            obtain ⟨A', c', rfl, -, -, -, hcG⟩ := hrd
            have HG := Lib.hid hcG
            have k0H := Lib.hid k0
            have ha2 : (a.add (i * 3)).block < w1.heap.size := by rw [add_block]; omega
            clear hcG o2 k1 k0
            go_wp2_with fail
            go_loopw [8, 9] (fun O I wr2 => ∃ j : Nat, j ≤ G.length ∧ I = .int .i64 j ∧ OwnI w1.heap.size wr2 O ((G.take j).filter (fun z => decide (z.n ≠ y.n))) ∧ Q w1 wr2) (fun _ I _ => G.length - (intOf I).toNat)
            case atStart => exact ⟨0, Nat.zero_le _, rfl, OwnI.nil _ _, Q.refl _⟩
            case round =>
              obtain ⟨j, hjl, rfl, hown, q⟩ := hrel
              have hz := q.size
              by_cases hjt : j < G.length
              · obtain ⟨aG, hAG, haG, hatG⟩ := HG.out j hjt
                subst hAG
                obtain ⟨d0, d1⟩ := hatG.keep (by rw [add_block]; exact haG) fun p hp => q.cell hp
                have e0 := (q.cell ha2).trans k0H.out
                have HF := filt_takeI G j hjt (fun z => decide (z.n ≠ y.n))
                have hlen := filt_leI G j (fun z => decide (z.n ≠ y.n))
                obtain ⟨z, hzz⟩ : ∃ z, z = G[j] := ⟨_, rfl⟩
                rw [← hzz] at d0 d1 HF
                clear hzz hatG
                have hjlt : (j : Int) < (G.length : Int) := by omega
                by_cases hn : z.n = y.n
                · have HW2 := Lib.hid (HF.2 (by simp [hn]))
                  have he : (z.n.toList == y.n.toList) = true := by rw [hn]; simp
                  clear HF hn
                  go_wp2_with fail
                  go_region
                  go_wp2
                  go_roundw
                  case rel => exact ⟨j + 1, by omega, by go_num, by rw [HW2.out]; exact OwnI.on hown (Q.refl _).drew, q.drew⟩
                  case measure => simp [intOf]; omega
                · have HW2 := Lib.hid (HF.1 (by simp [hn]))
                  have he : (z.n.toList == y.n.toList) = false := key_ne hn
                  clear HF hn
                  go_wp2_with fail
                  go_region
                  obtain ⟨wd, hwd⟩ : ∃ z, z = wr.drew := ⟨_, rfl⟩
                  rw [← hwd]
                  have hown := OwnI.on hown (Q.refl wr).drew
                  have hbel := q.drew
                  have d0 : wr.drew.cell? (aG.add (j * 2)) = some (.string z.n) := d0
                  have d1 : wr.drew.cell? ⟨(aG.add (j * 2)).block, (aG.add (j * 2)).off + 1, none⟩ = some (.string z.val) := d1
                  rw [← hwd] at hown hbel d0 d1
                  have hs := hbel.size
                  clear hwd q hz
                  go_wp2_with (at_builtin; refine wpList_snoc_itm _ rfl _ _ 26 68 Tryz.underlying26 rfl w1.heap.size wd.heap.size _ ((G.take j).filter (fun z => decide (z.n ≠ y.n))) z rfl rfl (cells_itm1 wd z 68) (World.ownsRow.alloc hown _) ?hb ?hl ?_; (case hb => simp; omega); (case hl => omega); intro v1 w2 h1 h2; have b1 := OwnI.grown (World.ownsRow.alloc hown _) (Below.alloc hbel hs _) (by simp; omega) h2; rw [← HW2.out] at h1; clear h2)
                  go_roundw
                  case rel => exact ⟨j + 1, by omega, by go_num, h1, b1⟩
                  case measure => simp [intOf]; omega
              · have h2 : ¬ (j : Int) < (G.length : Int) := by omega
                rw [List.take_of_length_le (by omega), ← HWF.out] at hown
                go_wp2_with fail
                go_roundw
                case rel => exact ⟨i + 1, by omega, by go_num, OwnI.low hown hb1, q3.trans q⟩
                case measure => simp [intOf]; omega
        · have h2 : ¬ (i : Int) < (c.length : Int) := by omega
          rw [List.take_of_length_le (by omega)] at hown
          go_wp2
          go_ret
          exact ⟨_, rfl, hown, hbel⟩
end Go.Proofs.YtbilnomafloopaaGreat
