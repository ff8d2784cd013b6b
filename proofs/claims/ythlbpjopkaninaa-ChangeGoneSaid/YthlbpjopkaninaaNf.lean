/-
  Contracts of the document's Count and Last of notes. Contracts of the document's Items, Live and Last of notes. Plain facts on numbers as octets, the lowest first. Contracts of the program's cut, cutCount, TakeNum, TakeText.
-/
import Derived.Test.YthlbpjopkaninaaNd
import Derived.Test.YthlbpjopkaninaaNe
import Derived.Test.YthlbpjopkaninaaNa
import Derived.Lib.VarintMem
import Derived.Laws.Bits64b
import Derived.Laws.Shifts
namespace Go.Proofs.Ythlbpjopkaninaa
set_option maxRecDepth 100000
open Go.ChangeShapes Go.WideShapes Go.ChangeAt Go.RowKit
set_option linter.unusedVariables false
set_option linter.unusedSimpArgs false
set_option maxRecDepth 100000
theorem filtT {α : Type} (p : α → Bool) (l : List α) (i : Nat) (h : i < l.length) : (l.take (i + 1)).filter p = (l.take i).filter p ++ (if p l[i] then [l[i]] else []) := by
  rw [List.take_succ_eq_append_getElem h, List.filter_append]
  cases hp : p l[i] <;> simp [hp]
theorem rcnt_len (l m : List Nte) : (rcnt l m).length ≤ l.length :=
  apart_len (List.Pairwise.imp (fun {a b} h e => ltB_neZ h (congrArg Nte.n e)) (rcnt_spec l m).1) fun x hx => (best_some ((rcnt_spec l m).2 x |>.1 hx).1).1
theorem rcnt_ok {l m : List Nte} {P : Nte → Prop} (h : ∀ x ∈ l, P x) : ∀ x ∈ rcnt l m, P x := fun x hx => h x (best_some ((rcnt_spec l m).2 x |>.1 hx).1).1
set_option maxHeartbeats 16000000 in
theorem rcount_any (l : List Nte) (v : Value) (w : World) (hl : l.length ≤ 100000) (ht : Ntes w w.heap.size v l) :
    Calls Try.prog 22 #[v] w fun e w' => ∃ v', e = .returned v' ∧ OwnW w.heap.size w' v' (cntN l) ∧ Q w w' := by
  have HT := Lib.hid ht
  have HOK := Lib.hid ht.okAll
  obtain ⟨A, c, rfl, -, -, hok, hcells⟩ := ht
  have HC := Lib.hid hcells
  clear hcells hok
  go_enter Try.func22, Try.ntmps22
  go_wp2_with fail
  go_loopw [3, 4] (fun O I wr => ∃ i : Nat, i ≤ l.length ∧ I = .int .i64 i ∧ OwnW w.heap.size wr O (rcnt l (l.take i)) ∧ Q w wr) (fun _ I _ => l.length - (intOf I).toNat)
  case atStart => exact ⟨0, Nat.zero_le _, rfl, OwnW.nil _ _, Q.refl _⟩
  case round =>
    obtain ⟨i, hil, rfl, hown, q⟩ := hrel
    obtain ⟨wi, hwi⟩ : ∃ x, x = wr := ⟨_, rfl⟩
    subst hwi
    by_cases hlt : i < l.length
    · obtain ⟨a, hAa, ha, hat⟩ := HC.out i hlt
      subst hAa
      obtain ⟨c0, c1, c2, c3⟩ := hat.keep (by rw [add_block]; exact ha) fun p hp => q.cell hp
      obtain ⟨z, hz⟩ := best_ex (List.getElem_mem hlt : l[i] ∈ l)
      have HM2 := Lib.hid (rcnt_take l l i hlt z hz)
      have hbz : BestI l l[i].n z true := .inl ⟨rfl, hz⟩
      obtain ⟨y, hy⟩ : ∃ y, y = l[i] := ⟨_, rfl⟩
      rw [← hy] at c0 c1 c2 c3 hz hbz
      have hokz := HOK.out z (best_some hz).1
      clear hy hat
      have C := Lib.hid (counts_any l y.n _ wi z true hbz hl (HT.out.on q))
      have hilt : (i : Int) < (l.length : Int) := by omega
      have lM := rcnt_len l (l.take i)
      have HRO := Lib.hid (rcnt_ok (m := l.take i) HOK.out)
      obtain ⟨M, hM⟩ : ∃ M, M = rcnt l (l.take i) := ⟨_, rfl⟩
      rw [← hM] at hown HM2 lM HRO
      have rd := OwnW.read hown HRO.out
      obtain ⟨AM, cM, rfl⟩ := rd.form
      clear hM hz hbz
      go_wp2_with fail
      refine (C.out).mono ?_
      rintro e w1 ⟨rfl, q1⟩
      clear C c0 c1 c2 c3
      have bz := Bx.new w1 39 #[.int .u64 (z.st : Nat), .string z.n, .string z.val, .bool z.gone]
      have qb := q1.alloc (.cells #[.int .u64 (z.st : Nat), .string z.n, .string z.val, .bool z.gone] 39)
      have hownb := hown.on qb
      have rdb := rd.on qb
      have qwb := q.trans qb
      have hszb : (w1.alloc (.cells #[.int .u64 (z.st : Nat), .string z.n, .string z.val, .bool z.gone] 39)).heap.size = w1.heap.size + 1 := World.size_alloc ..
      obtain ⟨wb, hwb⟩ : ∃ x, x = w1.alloc (.cells #[.int .u64 (z.st : Nat), .string z.n, .string z.val, .bool z.gone] 39) := ⟨_, rfl⟩
      obtain ⟨pz, hpz⟩ : ∃ x, x = w1.heap.size := ⟨_, rfl⟩
      rw [← hwb, ← hpz] at bz
      rw [← hwb] at hownb rdb qwb
      obtain ⟨BM, kM, eM, -, -, -, hcM⟩ := rdb
      injection eM with eM1 eM2 eM3
      subst eM1
      have HCM := Lib.hid hcM
      have HBZ := Lib.hid bz
      have HOWNB := Lib.hid hownb
      have HQB := Lib.hid qwb
      clear hcM eM2 eM3 rd hown bz hownb qwb qb hszb q1
      go_upto_region 6 with fail
      rw [← hwb, ← hpz]
      clear hwb hpz
      go_wp2_with fail
      go_loopw [7, 8] (fun N I wy => ∃ k : Nat, k ≤ M.length ∧ I = .int .i64 k ∧ OwnW wb.heap.size wy N ((M.take k).filter (fun u => ltBZ u.n z.n)) ∧ Q wb wy) (fun _ I _ => M.length - (intOf I).toNat)
      case atStart => exact ⟨0, Nat.zero_le _, rfl, OwnW.nil _ _, Q.refl _⟩
      case round =>
        obtain ⟨k, hkl, rfl, ownk, qk⟩ := hrel
        obtain ⟨wy, hwy⟩ : ∃ x, x = wr := ⟨_, rfl⟩
        subst hwy
        by_cases hkt : k < M.length
        · obtain ⟨a5, ha5e, ha5, hat5⟩ := HCM.out k hkt
          subst ha5e
          have HAT : Hid (∀ x, Q wb x → AtW x (a5.add (k * 4)) M[k]) := Lib.hid fun x qx => hat5.keep (by rw [add_block]; exact ha5) fun p hp => qx.cell hp
          have HF := Lib.hid (filtT (fun u => ltBZ u.n z.n) M k hkt)
          have hfl : ((M.take k).filter (fun u => ltBZ u.n z.n)).length ≤ 100000 := Nat.le_trans (List.length_filter_le ..) (by rw [List.length_take]; omega)
          obtain ⟨u, hu⟩ : ∃ u, u = M[k] := ⟨_, rfl⟩
          rw [← hu] at HAT HF
          clear hu hat5
          obtain ⟨d0, d1, d2, d3⟩ := HAT.out _ qk
          have bn := (HBZ.out.on qk).cell 1
          simp only [List.getElem?_toArray, List.getElem?_cons_zero, List.getElem?_cons_succ] at bn
          have hklt : (k : Int) < (M.length : Int) := by omega
          cases hc : ltBZ u.n z.n with
          | true =>
            have hc2 : Op.bytesLess u.n.toList z.n.toList = true := hc
            have hF : Hid ((M.take (k + 1)).filter (fun u => ltBZ u.n z.n) = (M.take k).filter (fun u => ltBZ u.n z.n) ++ [u]) := Lib.hid (by rw [HF.out, if_pos hc])
            clear hc HF
            have hs2 := qk.size
            have own2 := (ownk.on ((Q.refl wy).alloc (.cells #[.int .u64 (u.st : Nat), .string u.n, .string u.val, .bool u.gone] 39))).on ((Q.refl _).drew)
            have q2 := (qk.alloc (.cells #[.int .u64 (u.st : Nat), .string u.n, .string u.val, .bool u.gone] 39)).drew
            go_wp2_with fail
            refine wp_region_held_drew (S := (fun W => W.cell? ⟨(a5.add (k * 4)).block, (a5.add (k * 4)).off + 1, none⟩ = some (.string u.n) ∧ W.cell? ⟨pz, 1, none⟩ = some (.string z.n))) (by kernel_rfl) ⟨d1, bn⟩ (fun hHeld => ?_)
            refine tkV 0 ?_
            refine tkV 1 ?_
            refine tkV 2 ?_
            refine tkV 3 ?_
            refine tkV 4 ?_
            refine tkV 5 ?_
            refine tkV 6 ?_
            refine tkV 7 ?_
            refine tkV 8 ?_
            refine tkB 9 (.bool true) ?_
            refine wpAnyH_done (by kernel_rfl) ?_ _
            go_wp2_with (at_builtin; refine wpList_snoc_nte _ rfl _ _ 22 39 Try.underlying22 rfl wb.heap.size wy.heap.size _ _ u rfl rfl (cells_onente wy u 39) own2 ?hb ?hl ?_; (case hb => simp; omega); (case hl => omega); intro v8 w8 o8 g8)
            have q8 : Q wb w8 := Below.grown q2 g8 (by simp; omega) (fun k hk => (World.ownsRow.lt own2 k hk).1)
            have o8 : OwnW wb.heap.size w8 v8 ((M.take (k + 1)).filter (fun u => ltBZ u.n z.n)) := by rw [hF.out]; exact o8
            go_roundw
            case rel => exact ⟨k + 1, by omega, by go_num, o8, q8⟩
            case measure => simp [intOf]; omega
          | false =>
            have hc2 : Op.bytesLess u.n.toList z.n.toList = false := hc
            have hF : Hid ((M.take (k + 1)).filter (fun u => ltBZ u.n z.n) = (M.take k).filter (fun u => ltBZ u.n z.n)) := Lib.hid (by rw [HF.out, if_neg (by rw [hc]; decide), List.append_nil])
            clear hc HF
            have ownd := ownk.on ((Q.refl wy).drew)
            have qd := qk.drew
            rw [← hF.out] at ownd
            go_wp2_with fail
            refine wp_region_held_drew (S := (fun W => W.cell? ⟨(a5.add (k * 4)).block, (a5.add (k * 4)).off + 1, none⟩ = some (.string u.n) ∧ W.cell? ⟨pz, 1, none⟩ = some (.string z.n))) (by kernel_rfl) ⟨d1, bn⟩ (fun hHeld => ?_)
            refine tkV 0 ?_
            refine tkV 1 ?_
            refine tkV 2 ?_
            refine tkV 3 ?_
            refine tkV 4 ?_
            refine tkV 5 ?_
            refine tkV 6 ?_
            refine tkV 7 ?_
            refine tkV 8 ?_
            refine tkB 9 (.bool false) ?_
            refine wpAnyH_done (by kernel_rfl) ?_ _
            go_wp2_with fail
            go_roundw
            case rel => exact ⟨k + 1, by omega, by go_num, ownd, qd⟩
            case measure => simp [intOf]; omega
        · have h2 : ¬ (k : Int) < (M.length : Int) := by omega
          have hfl : (M.filter (fun u => ltBZ u.n z.n)).length ≤ 100000 := Nat.le_trans (List.length_filter_le ..) (by omega)
          rw [List.take_of_length_le (by omega)] at ownk
          obtain ⟨b0, b1, b2, b3⟩ : AtW wy ⟨pz, 0, none⟩ z := by
            have hb := HBZ.out.on qk
            exact ⟨(hb.cell 0).trans rfl, (hb.cell 1).trans rfl, (hb.cell 2).trans rfl, (hb.cell 3).trans rfl⟩
          have hs2 := qk.size
          have own2 := ownk.on ((Q.refl _).alloc (.cells #[.int .u64 (z.st : Nat), .string z.n, .string z.val, .bool z.gone] 39))
          have q2 := qk.alloc (.cells #[.int .u64 (z.st : Nat), .string z.n, .string z.val, .bool z.gone] 39)
          go_wp2_with (at_builtin; refine wpList_snoc_nte _ rfl _ _ 22 39 Try.underlying22 rfl wb.heap.size wy.heap.size _ _ z rfl rfl (cells_onente _ z 39) own2 ?hb ?hl ?_; (case hb => simp; omega); (case hl => omega); intro v8 w8 o8 g8)
          have q8 : Q wb w8 := Below.grown q2 g8 (by simp; omega) (fun k hk => (World.ownsRow.lt own2 k hk).1)
          clear own2 q2 g8 ownk b0 b1 b2 b3 hfl
          go_loopw [7, 9] (fun N I wy => ∃ k : Nat, k ≤ M.length ∧ I = .int .i64 k ∧ OwnW wb.heap.size wy N (M.filter (fun u => ltBZ u.n z.n) ++ [z] ++ (M.take k).filter (fun u => ltBZ z.n u.n)) ∧ Q wb wy) (fun _ I _ => M.length - (intOf I).toNat)
          case atStart => exact ⟨0, Nat.zero_le _, rfl, by simpa using o8, q8⟩
          case round =>
            obtain ⟨k2, hkl2, rfl, ownk, qk⟩ := hrel
            obtain ⟨wy, hwy⟩ : ∃ x, x = wr := ⟨_, rfl⟩
            subst hwy
            by_cases hkt2 : k2 < M.length
            · obtain ⟨a5, ha5e, ha5, hat5⟩ := HCM.out k2 hkt2
              subst ha5e
              have HAT : Hid (∀ x, Q wb x → AtW x (a5.add (k2 * 4)) M[k2]) := Lib.hid fun x qx => hat5.keep (by rw [add_block]; exact ha5) fun p hp => qx.cell hp
              have HF := Lib.hid (filtT (fun u => ltBZ z.n u.n) M k2 hkt2)
              have hfl : (M.filter (fun u => ltBZ u.n z.n) ++ [z] ++ (M.take k2).filter (fun u => ltBZ z.n u.n)).length ≤ 300000 := by
                have h1 := List.length_filter_le (fun u : Nte => ltBZ u.n z.n) M
                have h2 := List.length_filter_le (fun u : Nte => ltBZ z.n u.n) (M.take k2)
                rw [List.length_take] at h2
                rw [List.length_append, List.length_append, List.length_singleton]; omega
              obtain ⟨u, hu⟩ : ∃ u, u = M[k2] := ⟨_, rfl⟩
              rw [← hu] at HAT HF
              clear hu hat5
              obtain ⟨d0, d1, d2, d3⟩ := HAT.out _ qk
              have bn := (HBZ.out.on qk).cell 1
              simp only [List.getElem?_toArray, List.getElem?_cons_zero, List.getElem?_cons_succ] at bn
              have hklt : (k2 : Int) < (M.length : Int) := by omega
              cases hc : ltBZ z.n u.n with
              | true =>
                have hc2 : (!(Op.bytesLess u.n.toList z.n.toList || u.n.toList == z.n.toList)) = true := by rw [gtr_formZ]; exact hc
                have hF : Hid (M.filter (fun u => ltBZ u.n z.n) ++ [z] ++ (M.take (k2 + 1)).filter (fun u => ltBZ z.n u.n) = M.filter (fun u => ltBZ u.n z.n) ++ [z] ++ (M.take k2).filter (fun u => ltBZ z.n u.n) ++ [u]) := Lib.hid (by rw [HF.out, if_pos hc, ← List.append_assoc])
                clear hc HF
                have hs2 := qk.size
                have own2 := (ownk.on ((Q.refl wy).alloc (.cells #[.int .u64 (u.st : Nat), .string u.n, .string u.val, .bool u.gone] 39))).on ((Q.refl _).drew)
                have q2 := (qk.alloc (.cells #[.int .u64 (u.st : Nat), .string u.n, .string u.val, .bool u.gone] 39)).drew
                go_wp2_with fail
                refine wp_region_held_drew (S := (fun W => W.cell? ⟨(a5.add (k2 * 4)).block, (a5.add (k2 * 4)).off + 1, none⟩ = some (.string u.n) ∧ W.cell? ⟨pz, 1, none⟩ = some (.string z.n))) (by kernel_rfl) ⟨d1, bn⟩ (fun hHeld => ?_)
                refine tkV 0 ?_
                refine tkV 1 ?_
                refine tkV 2 ?_
                refine tkV 3 ?_
                refine tkV 4 ?_
                refine tkV 5 ?_
                refine tkV 6 ?_
                refine tkV 7 ?_
                refine tkV 8 ?_
                refine tkB 9 (.bool true) ?_
                refine wpAnyH_done (by kernel_rfl) ?_ _
                go_wp2_with (at_builtin; refine wpList_snoc_nte _ rfl _ _ 22 39 Try.underlying22 rfl wb.heap.size wy.heap.size _ _ u rfl rfl (cells_onente wy u 39) own2 ?hb ?hl ?_; (case hb => simp; omega); (case hl => omega); intro v8 w8 o8 g8)
                have q8 : Q wb w8 := Below.grown q2 g8 (by simp; omega) (fun k hk => (World.ownsRow.lt own2 k hk).1)
                have o8 : OwnW wb.heap.size w8 v8 (M.filter (fun u => ltBZ u.n z.n) ++ [z] ++ (M.take (k2 + 1)).filter (fun u => ltBZ z.n u.n)) := by rw [hF.out]; exact o8
                go_roundw
                case rel => exact ⟨k2 + 1, by omega, by go_num, o8, q8⟩
                case measure => simp [intOf]; omega
              | false =>
                have hc2 : (!(Op.bytesLess u.n.toList z.n.toList || u.n.toList == z.n.toList)) = false := by rw [gtr_formZ]; exact hc
                have hF : Hid (M.filter (fun u => ltBZ u.n z.n) ++ [z] ++ (M.take (k2 + 1)).filter (fun u => ltBZ z.n u.n) = M.filter (fun u => ltBZ u.n z.n) ++ [z] ++ (M.take k2).filter (fun u => ltBZ z.n u.n)) := Lib.hid (by rw [HF.out, if_neg (by rw [hc]; decide), List.append_nil])
                clear hc HF
                have ownd := ownk.on ((Q.refl wy).drew)
                have qd := qk.drew
                have ownd : OwnW wb.heap.size wy.drew u7 (M.filter (fun u => ltBZ u.n z.n) ++ [z] ++ (M.take (k2 + 1)).filter (fun u => ltBZ z.n u.n)) := by rw [hF.out]; exact ownd
                go_wp2_with fail
                refine wp_region_held_drew (S := (fun W => W.cell? ⟨(a5.add (k2 * 4)).block, (a5.add (k2 * 4)).off + 1, none⟩ = some (.string u.n) ∧ W.cell? ⟨pz, 1, none⟩ = some (.string z.n))) (by kernel_rfl) ⟨d1, bn⟩ (fun hHeld => ?_)
                refine tkV 0 ?_
                refine tkV 1 ?_
                refine tkV 2 ?_
                refine tkV 3 ?_
                refine tkV 4 ?_
                refine tkV 5 ?_
                refine tkV 6 ?_
                refine tkV 7 ?_
                refine tkV 8 ?_
                refine tkB 9 (.bool false) ?_
                refine wpAnyH_done (by kernel_rfl) ?_ _
                go_wp2_with fail
                go_roundw
                case rel => exact ⟨k2 + 1, by omega, by go_num, ownd, qd⟩
                case measure => simp [intOf]; omega
            · have h3 : ¬ (k2 : Int) < (M.length : Int) := by omega
              rw [List.take_of_length_le (by omega)] at ownk
              have HE : Hid (rcnt l (l.take (i + 1)) = M.filter (fun u => ltBZ u.n z.n) ++ [z] ++ M.filter (fun u => ltBZ z.n u.n)) := Lib.hid (by rw [HM2.out]; unfold inG; simp)
              have oE := ownk.low (b2 := w.heap.size) HQB.out.size
              rw [← HE.out] at oE
              have qE := HQB.out.trans qk
              clear ownk
              go_wp2_with fail
              go_roundw
              case rel => exact ⟨i + 1, by omega, by go_num, oE, qE⟩
              case measure => simp [intOf]; omega
    · have h2 : ¬ (i : Int) < (l.length : Int) := by omega
      rw [List.take_of_length_le (by omega), rcnt_all] at hown
      go_wp2
      go_ret
      exact ⟨_, rfl, hown, q⟩
end Go.Proofs.Ythlbpjopkaninaa

namespace Go.Proofs.Ythlbpjopkaninaa
set_option maxRecDepth 100000
open Go.ChangeShapes Go.WideShapes Go.ChangeAt Go.RowKit
set_option linter.unusedVariables false
set_option linter.unusedSimpArgs false
set_option maxRecDepth 100000
theorem wp_snocI {o : Oper} {a : Act} {K : Act → World → Prop} {Q : Exit → Act → World → Prop} (w : World) (s x : Operand) (t : TypeId)
    (htt : Try.prog.underlying t = some (.slice 58)) (ho : o.op = .call { callee := .builtin .append, args := #[s, x], argTypes := #[t, t] })
    (base g : Nat) (v : Value) (l : List Itm) (y : Itm) {c : Nat} (hs : a.eval s = v) (hx : a.eval x = .slice (some ⟨g, 0, none⟩) 1 c) (hgg : ∀ j u, (icl y)[j]? = some u → w.cell? ((⟨g, 0, none⟩ : Addr).add j) = some u) (h : OwnI base w v l)
    (hb : base ≤ w.heap.size) (hl : l.length ≤ 4000000)
    (k : ∀ v' w', OwnI base w' v' (l ++ [y]) → w.grownBy w' v.ownBlock → K (a.put o.dst v') w') : Oper.wp Try.prog o a w K Q := by
  obtain ⟨i0, hi0, hz0, hz1, hz2⟩ := info_parts info_itm
  obtain ⟨v', w', h1, h2, h3, -⟩ := run_append_own (P := Try.prog) w base t o.type 58 i0 (.agg #[.string ⟨#[]⟩, .string ⟨#[]⟩]) 2 32 htt hi0 hz0 hz1 hz2 rfl (by decide) v l.length (l.flatMap icl) h ⟨g, 0, none⟩ 1 c (icl y) rfl hgg (icl_one y) (by unfold maxLen; omega) (by omega) hb
  unfold Oper.wp execOp
  simp only [ho, resolve, invoke, builtin, Sem.run_bind, Sem.run_pure, Result.andThen_ok, List.map_toArray, List.map_cons, List.map_nil, hs, hx, h1]
  exact k v' w' (OwnI.onto (M := [y]) (by simpa using h2) rfl) h3
def itO (y : Nte) : Itm := ⟨y.n, y.val⟩
theorem itN_def (l : List Nte) : itN l = ((cntN l).filter fun y => !y.gone).map itO := rfl
theorem itT_yes {L : List Nte} {i : Nat} (h : i < L.length) (g : L[i].gone = false) : ((L.take (i + 1)).filter fun y => !y.gone).map itO = ((L.take i).filter fun y => !y.gone).map itO ++ [itO L[i]] := by
  rw [filtT _ _ _ h, List.map_append, if_pos (by simp [g])]; rfl
theorem itT_no {L : List Nte} {i : Nat} (h : i < L.length) (g : L[i].gone = true) : ((L.take (i + 1)).filter fun y => !y.gone).map itO = ((L.take i).filter fun y => !y.gone).map itO := by
  rw [filtT _ _ _ h, if_neg (by simp [g]), List.append_nil]
set_option maxHeartbeats 16000000 in
theorem ritems_any (l : List Nte) (v : Value) (w : World) (hl : l.length ≤ 100000) (ht : Ntes w w.heap.size v l) :
    Calls Try.prog 25 #[v] w fun e w' => ∃ v', e = .returned v' ∧ OwnI w.heap.size w' v' (itN l) ∧ Q w w' := by
  have G := Lib.hid (rcount_any l v w hl ht)
  have okLZ : ∀ x ∈ cntN l, okW x := fun x hx => ht.okAll x (cntN_sub hx)
  have lL := Nat.le_trans (cntN_len l) hl
  have HI := itN_def l
  obtain ⟨L, hL⟩ : ∃ L, L = cntN l := ⟨_, rfl⟩
  rw [← hL] at G okLZ lL HI
  have HOK := Lib.hid okLZ
  have HIT := Lib.hid HI
  clear hL ht okLZ HI
  go_enter Try.func25, Try.ntmps25
  go_wp2_with fail
  refine (G.out).mono ?_
  rintro e w1 ⟨v1, rfl, o1, q1⟩
  have r1 := OwnW.read o1 HOK.out
  obtain ⟨A, c, rfl, -, -, -, hcells⟩ := r1
  have HC := Lib.hid hcells
  have HQ1 := Lib.hid q1
  clear G o1 hcells q1
  go_wp2_with fail
  go_loopw [3, 5] (fun O I wr => ∃ i : Nat, i ≤ L.length ∧ I = .int .i64 i ∧ OwnI w1.heap.size wr O (((L.take i).filter fun y => !y.gone).map itO) ∧ Q w1 wr) (fun _ I _ => L.length - (intOf I).toNat)
  case atStart => exact ⟨0, Nat.zero_le _, rfl, OwnI.nil _ _, Q.refl _⟩
  case round =>
    obtain ⟨i, hil, rfl, hown, hbel⟩ := hrel
    by_cases hlt : i < L.length
    · obtain ⟨a, hAa, ha, hat⟩ := HC.out i hlt
      subst hAa
      obtain ⟨c0, c1, c2, c3⟩ := hat.keep (by rw [add_block]; exact ha) fun p hp => hbel.cell hp
      have HY := Lib.hid (itT_yes hlt)
      have HN := Lib.hid (itT_no hlt)
      have HAT : Hid (∀ x, Q w1 x → AtW x (a.add (i * 4)) L[i]) := Lib.hid fun x qx => hat.keep (by rw [add_block]; exact ha) fun p hp => qx.cell hp
      have hlen : (((L.take i).filter fun y => !y.gone).map itO).length ≤ 100000 := by rw [List.length_map]; exact Nat.le_trans (List.length_filter_le ..) (by rw [List.length_take]; omega)
      obtain ⟨y, hy⟩ : ∃ y, y = L[i] := ⟨_, rfl⟩
      rw [← hy] at c0 c1 c2 c3 HY HN HAT
      clear hy hat
      have hilt : (i : Int) < (L.length : Int) := by omega
      cases hg : y.gone with
      | false =>
        have HW := Lib.hid (HY.out hg)
        rw [hg] at c3
        clear HY HN hg
        have KS : Hid (∀ x, Q w1 x → (fun W => W.cell? ⟨(a.add (i * 4)).block, (a.add (i * 4)).off + 1, none⟩ = some (.string y.n) ∧ W.cell? ⟨(a.add (i * 4)).block, (a.add (i * 4)).off + 2, none⟩ = some (.string y.val)) x) := Lib.hid fun x qx => ⟨(HAT.out x qx).2.1, (HAT.out x qx).2.2.1⟩
        go_wp2_with fail
        refine wp_region_held_drew (S := (fun W => W.cell? ⟨(a.add (i * 4)).block, (a.add (i * 4)).off + 1, none⟩ = some (.string y.n) ∧ W.cell? ⟨(a.add (i * 4)).block, (a.add (i * 4)).off + 2, none⟩ = some (.string y.val))) (by kernel_rfl) ⟨c1, c2⟩ (fun hHeld => ?_)
        refine tkV 0 ?_
        refine tkV 1 ?_
        refine tkV 2 ?_
        refine tkV 3 ?_
        refine tkV 4 ?_
        refine tkV 5 ?_
        refine tkV 6 ?_
        refine tkV 7 ?_
        refine tkV 8 ?_
        refine tkV 9 ?_
        refine tkV 10 ?_
        refine tkV 11 ?_
        refine tkV 12 ?_
        refine tkV 13 ?_
        refine aR [14] ?_
        refine AllReadyH.cons (o := _) rfl (fun K hK => ?_) AllReadyH.nil
        go_simp
        have q2 := hbel.drew.alloc (.cells #[.string y.n, .string y.val] 58)
        have own2 := (hown.on ((Q.refl wr).drew)).on ((Q.refl _).alloc (.cells #[.string y.n, .string y.val] 58))
        refine hK.out _ _ (KS.out _ q2) (fun hHeld2 => ?_)
        clear hK K
        refine pg ?_
        refine aR [15] ?_
        refine AllReadyH.cons (o := _) rfl (fun K hK => ?_) AllReadyH.nil
        rw [if_pos (by rfl)]
        refine wp_snocI _ _ _ 45 Try.underlying45 rfl w1.heap.size _ _ _ (itO y) rfl rfl (cells_oneitm _ (itO y) 58) own2 ?hb ?hl ?_
        case hb => exact q2.size
        case hl => omega
        intro v8 w8 o8 g8
        have q8 : Q w1 w8 := Below.grown q2 g8 q2.size (fun k hk => (World.ownsRow.lt own2 k hk).1)
        have o8 : OwnI w1.heap.size w8 v8 (((L.take (i + 1)).filter fun y => !y.gone).map itO) := by rw [HW.out]; exact o8
        refine hK.out _ _ (KS.out _ q8) (fun hHeld3 => ?_)
        clear hK K
        refine pg ?_
        refine tkV 16 ?_
        refine wpAnyH_done (by kernel_rfl) ?_ _
        go_wp2_with fail
        go_roundw
        case rel => exact ⟨i + 1, by omega, by go_num, o8, q8⟩
        case measure => simp [intOf]; omega
      | true =>
        have HW := Lib.hid (HN.out hg)
        rw [hg] at c3
        rw [← HW.out] at hown
        clear HY HN hg
        go_wp2_with fail
        go_roundw
        case rel => exact ⟨i + 1, by omega, by go_num, hown, hbel⟩
        case measure => simp [intOf]; omega
    · have h2 : ¬ (i : Int) < (L.length : Int) := by omega
      rw [List.take_of_length_le (by omega), ← HIT.out] at hown
      go_wp2
      go_ret
      exact ⟨_, rfl, OwnI.low hown HQ1.out.size, HQ1.out.trans hbel⟩
set_option maxHeartbeats 4000000 in
theorem rlastN_any (l : List Nte) (v : Value) (w : World) (hl : l.length ≤ 1000000) (ht : Ntes w w.heap.size v l) :
    Calls Try.prog 29 #[v] w fun e w' => e = .returned (.int .u64 (lastN l : Nat)) ∧ D w w' := by
  obtain ⟨A, c, rfl, -, -, hok, hcells⟩ := ht
  have HC := Lib.hid hcells
  clear hcells hok
  go_enter Try.func29, Try.ntmps29
  go_wp2_with fail
  go_loopw [3, 4] (fun M I wr => ∃ i m : Nat, i ≤ l.length ∧ I = .int .i64 i ∧ M = .int .u64 (m : Nat) ∧ Hid (m = lastN (l.take i)) ∧ D w wr) (fun _ I _ => l.length - (intOf I).toNat)
  case atStart => exact ⟨0, 0, Nat.zero_le _, rfl, rfl, Lib.hid rfl, D.refl _⟩
  case round =>
    obtain ⟨i, m, hil, rfl, rfl, HM, hd⟩ := hrel
    by_cases hlt : i < l.length
    · obtain ⟨a, hAa, ha, hat⟩ := HC.out i hlt
      subst hAa
      have hq := hd.q
      obtain ⟨c0, c1, c2, c3⟩ := hat.keep (by rw [add_block]; exact ha) fun p hp => hq.cell hp
      have HW := Lib.hid (lastN_take l i hlt)
      obtain ⟨y, hy⟩ : ∃ y, y = l[i] := ⟨_, rfl⟩
      rw [← hy] at c0 c1 c2 c3 HW
      clear hy hat hq
      have hilt : (i : Int) < (l.length : Int) := by omega
      by_cases g : m < y.st
      · have g' : (m : Int) < (y.st : Int) := by omega
        have HN : Hid (y.st = lastN (l.take (i + 1))) := Lib.hid (by rw [HW.out, ← HM.out]; omega)
        clear g
        go_wp2_with fail
        go_roundw
        case rel => exact ⟨i + 1, y.st, by omega, by go_num, rfl, HN, hd⟩
        case measure => simp [intOf]; omega
      · have g' : ¬ (m : Int) < (y.st : Int) := by omega
        have HN : Hid (m = lastN (l.take (i + 1))) := Lib.hid (by rw [HW.out, ← HM.out]; omega)
        clear g
        go_wp2_with fail
        go_roundw
        case rel => first | exact ⟨i + 1, m, by omega, by go_num, rfl, HN, hd⟩ | (trace_state; sorry)
        case measure => simp [intOf]; omega
    · have h2 : ¬ (i : Int) < (l.length : Int) := by omega
      have HN : Hid (m = lastN l) := Lib.hid (by rw [HM.out, List.take_of_length_le (by omega)])
      go_wp2
      go_ret
      exact ⟨by rw [← HN.out]; rfl, hd⟩
set_option maxHeartbeats 16000000 in
theorem rlive_any (all l : List Nte) (va vl : Value) (w : World) (hl : l.length ≤ 100000) (hla : all.length ≤ 100000) (hta : Ntes w w.heap.size va all) (ht : Ntes w w.heap.size vl l) :
    Calls Try.prog 27 #[va, vl] w fun e w' => ∃ v', e = .returned v' ∧ OwnW w.heap.size w' v' (liveN all l) ∧ Q w w' := by
  have HTA := Lib.hid hta
  obtain ⟨A, c, rfl, -, -, hok, hcells⟩ := ht
  have HC := Lib.hid hcells
  clear hcells hok hta
  go_enter Try.func27, Try.ntmps27
  go_wp2_with fail
  go_loopw [5, 6] (fun O I wr => ∃ i : Nat, i ≤ l.length ∧ I = .int .i64 i ∧ OwnW w.heap.size wr O (liveN all (l.take i)) ∧ Q w wr) (fun _ I _ => l.length - (intOf I).toNat)
  case atStart => exact ⟨0, Nat.zero_le _, rfl, OwnW.nil _ _, Q.refl _⟩
  case round =>
    obtain ⟨i, hil, rfl, hown, q⟩ := hrel
    by_cases hlt : i < l.length
    · obtain ⟨a, hAa, ha, hat⟩ := HC.out i hlt
      subst hAa
      obtain ⟨c0, c1, c2, c3⟩ := hat.keep (by rw [add_block]; exact ha) fun p hp => q.cell hp
      have WY := Lib.hid (liveT_yes (all := all) hlt)
      have WN := Lib.hid (liveT_no (all := all) hlt)
      have HAT : Hid (∀ x, Q w x → AtW x (a.add (i * 4)) l[i]) := Lib.hid fun x qx => hat.keep (by rw [add_block]; exact ha) fun p hp => qx.cell hp
      have hlen : (liveN all (l.take i)).length ≤ 100000 := Nat.le_trans (List.length_filter_le ..) (by rw [List.length_take]; omega)
      obtain ⟨y, hy⟩ : ∃ y, y = l[i] := ⟨_, rfl⟩
      rw [← hy] at c0 c1 c2 c3 WY WN HAT
      clear hy hat
      obtain ⟨z, f, hz⟩ := bestI_ex all y.n
      have C := Lib.hid (counts_any all y.n _ wr z f hz hla (HTA.out.on q))
      have HBZ := Lib.hid hz
      have hilt : (i : Int) < (l.length : Int) := by omega
      clear hz
      go_wp2_with fail
      refine (C.out).mono ?_
      rintro e w1 ⟨rfl, q1⟩
      clear C c0 c1 c2 c3
      have bz := Bx.new w1 39 #[.int .u64 (z.st : Nat), .string z.n, .string z.val, .bool z.gone]
      have qb := q1.alloc (.cells #[.int .u64 (z.st : Nat), .string z.n, .string z.val, .bool z.gone] 39)
      have hownb := hown.on qb
      have qwb := q.trans qb
      obtain ⟨wb, hwb⟩ : ∃ x, x = w1.alloc (.cells #[.int .u64 (z.st : Nat), .string z.n, .string z.val, .bool z.gone] 39) := ⟨_, rfl⟩
      obtain ⟨pz, hpz⟩ : ∃ x, x = w1.heap.size := ⟨_, rfl⟩
      rw [← hwb, ← hpz] at bz
      rw [← hwb] at hownb qwb
      have b0 := bz.cell 0
      have b1 := bz.cell 1
      have b2 := bz.cell 2
      have b3 := bz.cell 3
      simp only [List.getElem?_toArray, List.getElem?_cons_zero, List.getElem?_cons_succ] at b0 b1 b2 b3
      obtain ⟨e0, e1, e2, e3⟩ := HAT.out _ qwb
      clear bz qb q1 hown q
      go_upto_region 6 with fail
      rw [← hwb, ← hpz]
      clear hwb hpz
      have qd := qwb.drew
      cases f with
      | false =>
        have hn : best all y.n = none := by
          rcases HBZ.out with ⟨h, -⟩ | ⟨-, h, -⟩
          · cases h
          · exact h
        have W9 := Lib.hid (WN.out (by rw [hn]; simp))
        have ownd := hownb.on ((Q.refl wb).drew)
        rw [← W9.out] at ownd
        clear WY WN HBZ hn hownb
        go_wp2_with fail
        refine wp_region_held_drew (S := (fun _ => True)) (by kernel_rfl) trivial (fun hHeld => ?_)
        refine tkV 0 ?_
        refine tkV 1 ?_
        refine tkU 2 ?_
        refine tkU 3 ?_
        refine tkU 4 ?_
        refine tkU 5 ?_
        refine tkU 6 ?_
        refine tkU 7 ?_
        refine tkV 8 ?_
        refine wpAnyH_done (by kernel_rfl) ?_ _
        go_wp2_with fail
        go_roundw
        case rel => exact ⟨i + 1, by omega, by go_num, ownd, qd⟩
        case measure => simp [intOf]; omega
      | true =>
        have hs : best all y.n = some z := by
          rcases HBZ.out with ⟨-, h⟩ | ⟨h, -⟩
          · exact h
          · cases h
        by_cases exy : y = z
        · subst exy
          have W9 := Lib.hid (WY.out hs)
          clear WY WN HBZ hs
          have own2 := (hownb.on ((Q.refl wb).alloc (.cells #[.int .u64 (y.st : Nat), .string y.n, .string y.val, .bool y.gone] 39))).on ((Q.refl _).drew)
          have q2 := (qwb.alloc (.cells #[.int .u64 (y.st : Nat), .string y.n, .string y.val, .bool y.gone] 39)).drew
          have hs2 := qwb.size
          go_wp2_with fail
          refine wp_region_held_drew (S := (fun W => W.cell? ⟨pz, 0, none⟩ = some (.int .u64 (y.st : Nat)) ∧ W.cell? ⟨pz, 1, none⟩ = some (.string y.n) ∧ W.cell? ⟨pz, 2, none⟩ = some (.string y.val) ∧ W.cell? ⟨pz, 3, none⟩ = some (.bool y.gone) ∧ W.cell? (a.add (i * 4)) = some (.int .u64 (y.st : Nat)) ∧ W.cell? ⟨(a.add (i * 4)).block, (a.add (i * 4)).off + 1, none⟩ = some (.string y.n) ∧ W.cell? ⟨(a.add (i * 4)).block, (a.add (i * 4)).off + 2, none⟩ = some (.string y.val) ∧ W.cell? ⟨(a.add (i * 4)).block, (a.add (i * 4)).off + 3, none⟩ = some (.bool y.gone))) (by kernel_rfl) ⟨b0, b1, b2, b3, e0, e1, e2, e3⟩ (fun hHeld => ?_)
          refine tkV 0 ?_
          refine tkV 1 ?_
          refine tkV 2 ?_
          refine tkV 3 ?_
          refine tkV 4 ?_
          refine tkV 5 ?_
          refine tkV 6 ?_
          refine tkB 7 (.bool true) ?_
          refine tkV 8 ?_
          refine wpAnyH_done (by kernel_rfl) ?_ _
          go_wp2_with (at_builtin; refine wpList_snoc_nte _ rfl _ _ 22 39 Try.underlying22 rfl w.heap.size wb.heap.size _ _ y rfl rfl (cells_onente wb y 39) own2 ?hb ?hl ?_; (case hb => simp; omega); (case hl => omega); intro v8 w8 o8 g8)
          have q8 : Q w w8 := Below.grown q2 g8 (by simp; omega) (fun k hk => (World.ownsRow.lt own2 k hk).1)
          have o8 : OwnW w.heap.size w8 v8 (liveN all (l.take (i + 1))) := by rw [W9.out]; exact o8
          go_roundw
          case rel => exact ⟨i + 1, by omega, by go_num, o8, q8⟩
          case measure => simp [intOf]; omega
        · have W9 := Lib.hid (WN.out (by rw [hs]; intro e; injection e with e; exact exy e.symm))
          have hne := nsame_ne exy
          have ownd := hownb.on ((Q.refl wb).drew)
          rw [← W9.out] at ownd
          clear WY WN HBZ hs exy hownb W9
          obtain ⟨ys, yn, yv, yg⟩ := y
          obtain ⟨zs, zn, zv, zg⟩ := z
          simp only at b0 b1 b2 b3 e0 e1 e2 e3 hne
          rcases hne with h | ⟨rfl, h⟩ | ⟨rfl, rfl, h⟩ | ⟨rfl, rfl, rfl, h⟩
          · have h' : ¬ ((zs : Int) = (ys : Int)) := by omega
            go_wp2_with fail
            refine wp_region_held_drew (S := (fun W => W.cell? ⟨pz, 0, none⟩ = some (.int .u64 (zs : Nat)) ∧ W.cell? ⟨pz, 1, none⟩ = some (.string zn) ∧ W.cell? ⟨pz, 2, none⟩ = some (.string zv) ∧ W.cell? ⟨pz, 3, none⟩ = some (.bool zg) ∧ W.cell? (a.add (i * 4)) = some (.int .u64 (ys : Nat)) ∧ W.cell? ⟨(a.add (i * 4)).block, (a.add (i * 4)).off + 1, none⟩ = some (.string yn) ∧ W.cell? ⟨(a.add (i * 4)).block, (a.add (i * 4)).off + 2, none⟩ = some (.string yv) ∧ W.cell? ⟨(a.add (i * 4)).block, (a.add (i * 4)).off + 3, none⟩ = some (.bool yg))) (by kernel_rfl) ⟨b0, b1, b2, b3, e0, e1, e2, e3⟩ (fun hHeld => ?_)
            refine tkV 0 ?_
            refine tkV 1 ?_
            refine tkV 2 ?_
            refine tkV 3 ?_
            refine tkV 4 ?_
            refine tkV 5 ?_
            refine tkV 6 ?_
            refine tkB 7 (.bool false) ?_
            refine tkV 8 ?_
            refine wpAnyH_done (by kernel_rfl) ?_ _
            go_wp2_with fail
            go_roundw
            case rel => exact ⟨i + 1, by omega, by go_num, ownd, qd⟩
            case measure => simp [intOf]; omega
          · have h' : ¬ (zn.toList = yn.toList) := fun e => h (bl_inj (by rw [← toList_bl, ← toList_bl, e]))
            clear h
            go_wp2_with fail
            refine wp_region_held_drew (S := (fun W => W.cell? ⟨pz, 0, none⟩ = some (.int .u64 (ys : Nat)) ∧ W.cell? ⟨pz, 1, none⟩ = some (.string zn) ∧ W.cell? ⟨pz, 2, none⟩ = some (.string zv) ∧ W.cell? ⟨pz, 3, none⟩ = some (.bool zg) ∧ W.cell? (a.add (i * 4)) = some (.int .u64 (ys : Nat)) ∧ W.cell? ⟨(a.add (i * 4)).block, (a.add (i * 4)).off + 1, none⟩ = some (.string yn) ∧ W.cell? ⟨(a.add (i * 4)).block, (a.add (i * 4)).off + 2, none⟩ = some (.string yv) ∧ W.cell? ⟨(a.add (i * 4)).block, (a.add (i * 4)).off + 3, none⟩ = some (.bool yg))) (by kernel_rfl) ⟨b0, b1, b2, b3, e0, e1, e2, e3⟩ (fun hHeld => ?_)
            refine tkV 0 ?_
            refine tkV 1 ?_
            refine tkV 2 ?_
            refine tkV 3 ?_
            refine tkV 4 ?_
            refine tkV 5 ?_
            refine tkV 6 ?_
            refine tkB 7 (.bool false) ?_
            refine tkV 8 ?_
            refine wpAnyH_done (by kernel_rfl) ?_ _
            go_wp2_with fail
            go_roundw
            case rel => exact ⟨i + 1, by omega, by go_num, ownd, qd⟩
            case measure => simp [intOf]; omega
          · have h' : ¬ (zv.toList = yv.toList) := fun e => h (bl_inj (by rw [← toList_bl, ← toList_bl, e]))
            clear h
            go_wp2_with fail
            refine wp_region_held_drew (S := (fun W => W.cell? ⟨pz, 0, none⟩ = some (.int .u64 (ys : Nat)) ∧ W.cell? ⟨pz, 1, none⟩ = some (.string yn) ∧ W.cell? ⟨pz, 2, none⟩ = some (.string zv) ∧ W.cell? ⟨pz, 3, none⟩ = some (.bool zg) ∧ W.cell? (a.add (i * 4)) = some (.int .u64 (ys : Nat)) ∧ W.cell? ⟨(a.add (i * 4)).block, (a.add (i * 4)).off + 1, none⟩ = some (.string yn) ∧ W.cell? ⟨(a.add (i * 4)).block, (a.add (i * 4)).off + 2, none⟩ = some (.string yv) ∧ W.cell? ⟨(a.add (i * 4)).block, (a.add (i * 4)).off + 3, none⟩ = some (.bool yg))) (by kernel_rfl) ⟨b0, b1, b2, b3, e0, e1, e2, e3⟩ (fun hHeld => ?_)
            refine tkV 0 ?_
            refine tkV 1 ?_
            refine tkV 2 ?_
            refine tkV 3 ?_
            refine tkV 4 ?_
            refine tkV 5 ?_
            refine tkV 6 ?_
            refine tkB 7 (.bool false) ?_
            refine tkV 8 ?_
            refine wpAnyH_done (by kernel_rfl) ?_ _
            go_wp2_with fail
            go_roundw
            case rel => exact ⟨i + 1, by omega, by go_num, ownd, qd⟩
            case measure => simp [intOf]; omega
          · have h' : ¬ (zg = yg) := fun e => h e.symm
            go_wp2_with fail
            refine wp_region_held_drew (S := (fun W => W.cell? ⟨pz, 0, none⟩ = some (.int .u64 (ys : Nat)) ∧ W.cell? ⟨pz, 1, none⟩ = some (.string yn) ∧ W.cell? ⟨pz, 2, none⟩ = some (.string yv) ∧ W.cell? ⟨pz, 3, none⟩ = some (.bool zg) ∧ W.cell? (a.add (i * 4)) = some (.int .u64 (ys : Nat)) ∧ W.cell? ⟨(a.add (i * 4)).block, (a.add (i * 4)).off + 1, none⟩ = some (.string yn) ∧ W.cell? ⟨(a.add (i * 4)).block, (a.add (i * 4)).off + 2, none⟩ = some (.string yv) ∧ W.cell? ⟨(a.add (i * 4)).block, (a.add (i * 4)).off + 3, none⟩ = some (.bool yg))) (by kernel_rfl) ⟨b0, b1, b2, b3, e0, e1, e2, e3⟩ (fun hHeld => ?_)
            refine tkV 0 ?_
            refine tkV 1 ?_
            refine tkV 2 ?_
            refine tkV 3 ?_
            refine tkV 4 ?_
            refine tkV 5 ?_
            refine tkV 6 ?_
            refine tkB 7 (.bool false) ?_
            refine tkV 8 ?_
            refine wpAnyH_done (by kernel_rfl) ?_ _
            go_wp2_with fail
            go_roundw
            case rel => exact ⟨i + 1, by omega, by go_num, ownd, qd⟩
            case measure => simp [intOf]; omega
    · have h2 : ¬ (i : Int) < (l.length : Int) := by omega
      rw [List.take_of_length_le (by omega)] at hown
      go_wp2
      go_ret
      exact ⟨_, rfl, hown, q⟩
end Go.Proofs.Ythlbpjopkaninaa

namespace Go.Proofs.Ythlbpjopkaninaa
set_option maxRecDepth 100000
open Go.ChangeShapes Go.WideShapes Go.ChangeAt Go.RowKit
/-- The k lowest octets of a number. -/
def oct : Nat → Nat → List UInt8
  | _, 0 => []
  | n, k + 1 => (n % 256).toUInt8 :: oct (n / 256) k
theorem oct_length (n k : Nat) : (oct n k).length = k := by
  induction k generalizing n with
  | zero => rfl
  | succ k ih => simp [oct, ih]
theorem oct_snoc (n k : Nat) : oct n (k + 1) = oct n k ++ [(n / 256 ^ k % 256).toUInt8] := by
  induction k generalizing n with
  | zero => simp [oct]
  | succ k ih =>
    rw [oct, ih, oct, List.cons_append]
    congr 3
    rw [Nat.div_div_eq_div_mul, Nat.pow_succ, Nat.mul_comm]
/-- The number of octets. -/
def val : List UInt8 → Nat
  | [] => 0
  | c :: r => c.toNat + 256 * val r
theorem val_oct (n k : Nat) : val (oct n k) = n % 256 ^ k := by
  induction k generalizing n with
  | zero => simp [oct, val]; omega
  | succ k ih =>
    rw [oct, val, ih, Lib.toUInt8_toNat (by omega), Nat.pow_succ, Nat.mul_comm (256 ^ k) 256, Nat.mod_mul]
theorem val_lt (l : List UInt8) : val l < 256 ^ l.length := by
  induction l with
  | nil => simp [val]
  | cons c r ih =>
    rw [val, List.length_cons, Nat.pow_succ]
    have := UInt8.toNat_lt c
    omega
theorem val_snoc (l : List UInt8) (c : UInt8) : val (l ++ [c]) = val l + 256 ^ l.length * c.toNat := by
  induction l with
  | nil => simp [val]
  | cons d r ih =>
    rw [List.cons_append, val, ih, val, List.length_cons, Nat.pow_succ, Nat.mul_add, Nat.mul_comm (256 ^ r.length) 256, Nat.mul_assoc, Nat.add_assoc]
theorem val_lt64 (l : List UInt8) (h : l.length ≤ 8) : val l < 18446744073709551616 := by
  have h1 := val_lt l
  have h2 : 256 ^ l.length ≤ 256 ^ 8 := Nat.pow_le_pow_right (by decide) h
  have h3 : (256 : Nat) ^ 8 = 18446744073709551616 := by decide
  omega
theorem pow256 (k : Nat) : 256 ^ k = 2 ^ (8 * k) := by rw [Nat.pow_mul]
theorem val_or (l : List UInt8) (c : UInt8) : val l ||| c.toNat * 2 ^ (8 * l.length) = val (l ++ [c]) := by
  rw [val_snoc, pow256]
  have h := val_lt l
  rw [pow256] at h
  have := Nat.shiftLeft_add_eq_or_of_lt h c.toNat
  rw [Nat.shiftLeft_eq] at this
  rw [Nat.or_comm, ← this, Nat.add_comm, Nat.mul_comm]
theorem take_snocZ (s : ByteArray) (k : Nat) (h : k < s.size) : (bl s).take (k + 1) = (bl s).take k ++ [s[k]] := by
  rw [List.take_succ_eq_append_getElem (by rw [bl_length]; exact h)]; rfl
theorem take_length (s : ByteArray) (k : Nat) (h : k ≤ s.size) : ((bl s).take k).length = k := by
  rw [List.length_take, bl_length]; omega
/-- Two numbers with the same octets. -/
theorem oct_inj {a b k : Nat} (ha : a < 256 ^ k) (hb : b < 256 ^ k) (h : oct a k = oct b k) : a = b := by
  have := congrArg val h
  rw [val_oct, val_oct, Nat.mod_eq_of_lt ha, Nat.mod_eq_of_lt hb] at this
  exact this
end Go.Proofs.Ythlbpjopkaninaa

namespace Go.Proofs.Ythlbpjopkaninaa
set_option maxRecDepth 100000
open Go.ChangeShapes Go.WideShapes Go.ChangeAt Go.RowKit
set_option linter.unusedVariables false
theorem or_step {s : ByteArray} {m j : Nat} (hm : m = val ((bl s).take j)) (hj : j < s.size) (h8 : j < 8) :
    bits BinOp.or IntKind.u64 (m : Int) (IntKind.u64.wrap (IntKind.u64.wrap (s[j].toNat : Int) * 2 ^ (8 * j))) = ((val ((bl s).take (j + 1)) : Nat) : Int) := by
  have hc := UInt8.toNat_lt s[j]
  have hl := take_length s j (by omega)
  have hp : s[j].toNat * 2 ^ (8 * j) < 18446744073709551616 := by
    have h1 : (2 : Nat) ^ (8 * j) ≤ 2 ^ 56 := Nat.pow_le_pow_right (by decide) (by omega)
    have h2 : s[j].toNat * 2 ^ (8 * j) ≤ 255 * 2 ^ 56 := Nat.mul_le_mul (by omega) h1
    have h3 : 255 * (2 : Nat) ^ 56 < 18446744073709551616 := by decide
    omega
  rw [IntWalk.u64_in (s[j].toNat : Int) (by omega)]
  have e : (s[j].toNat : Int) * 2 ^ (8 * j) = ((s[j].toNat * 2 ^ (8 * j) : Nat) : Int) := by push_cast; rfl
  rw [e, IntWalk.u64_in _ (by omega), bits_or_u64_nat _ _ (by rw [hm]; exact val_lt64 _ (by omega)) hp, hm, take_snocZ s j hj]
  have := val_or ((bl s).take j) s[j]
  rw [hl] at this
  rw [this]
set_option maxHeartbeats 1000000 in
theorem cut_anyZ (s : ByteArray) (k : Nat) (w : World) (hs : s.size ≤ 1000000000) (hk : k ≤ s.size) (h8 : k ≤ 8) :
    Calls Try.prog 65 #[.string s, .int .i64 k] w fun e w' => e = .returned (.tuple #[.int .u64 (val ((bl s).take k) : Nat), .string (s.extract k s.size), .int .i64 0]) ∧ Q w w' := by
  go_enter Try.func65, Try.ntmps65
  go_wp2
  go_loop [7, 14] (fun M i => ∃ j m : Nat, j ≤ k ∧ m < 18446744073709551616 ∧ i = .int .i64 j ∧ M = .int .u64 m ∧ Hid (m = val ((bl s).take j))) (fun _ i => k - (intOf i).toNat)
  case atStart => exact ⟨0, 0, Nat.zero_le _, by omega, rfl, rfl, Lib.hid (by simp [val])⟩
  case round =>
    obtain ⟨j, m, hj, hm, rfl, rfl, HM⟩ := hrel
    by_cases hlt : j < k
    · have hjs : j < s.size := by omega
      have HO := Lib.hid (or_step HM.out hjs (by omega))
      go_wp2
      go_round
      case rel => exact ⟨j + 1, _, by omega, val_lt64 ((bl s).take (j + 1)) (by rw [take_length s _ (by omega)]; omega), by go_num, by rw [HO.out], Lib.hid rfl⟩
      case measure => simp [intOf]; omega
    · obtain rfl : j = k := by omega
      go_wp2
      go_region
      go_wp2
      go_ret3
      exact ⟨by rw [HM.out]; rfl, (Q.refl _).drew⟩
set_option maxHeartbeats 1000000 in
theorem cut_short (s : ByteArray) (k : Nat) (w : World) (hs : s.size ≤ 1000000000) (hk : s.size < k) (h8 : k ≤ 8) :
    Calls Try.prog 65 #[.string s, .int .i64 k] w fun e w' => e = .returned (.tuple #[.int .u64 0, .string ⟨#[]⟩, .int .i64 3]) ∧ w = w' := by
  go_enter Try.func65, Try.ntmps65
  go_wp2
  go_ret3
  exact ⟨rfl, rfl⟩
/-- The count with which octets begin. -/
def cntZ (s : ByteArray) : Nat := val ((bl s).take 2)
theorem cnt_lt (s : ByteArray) : cntZ s < 65536 := by
  have h1 := val_lt ((bl s).take 2)
  have h2 : 256 ^ ((bl s).take 2).length ≤ 256 ^ 2 := Nat.pow_le_pow_right (by decide) (by rw [List.length_take]; omega)
  unfold cntZ; omega
/-- What is taken as a count: it, what is behind, and the error's number. -/
def tc (s : ByteArray) : Nat × ByteArray × Nat := if s.size < 2 then (0, ⟨#[]⟩, 3) else if 4000 < cntZ s then (0, ⟨#[]⟩, 2) else (cntZ s, s.extract 2 s.size, 0)
set_option maxHeartbeats 1000000 in
theorem cutCount_any (s : ByteArray) (w : World) (hs : s.size ≤ 1000000000) {n : Nat} {b : ByteArray} {f : Nat} (h : tc s = (n, b, f)) :
    Calls Try.prog 62 #[.string s] w fun e w' => e = .returned (.tuple #[.int .i64 n, .string b, .int .i64 f]) ∧ Q w w' := by
  unfold tc at h
  split at h
  · rename_i h2
    obtain ⟨rfl, rfl, rfl⟩ : 0 = n ∧ (⟨#[]⟩ : ByteArray) = b ∧ 3 = f := by simpa using h
    clear h
    go_enter Try.func62, Try.ntmps62
    go_wp2_with fail
    refine (cut_short s 2 w hs h2 (by omega)).mono ?_
    rintro e w1 ⟨rfl, rfl⟩
    go_wp2
    go_ret3
    exact ⟨rfl, Q.refl _⟩
  · rename_i h2
    have hc := cnt_lt s
    have HC := Lib.hid (cut_anyZ s 2 w hs (by omega) (by omega))
    have e : val ((bl s).take 2) = cntZ s := rfl
    rw [e] at HC
    clear e
    split at h
    · rename_i h4
      obtain ⟨rfl, rfl, rfl⟩ : 0 = n ∧ (⟨#[]⟩ : ByteArray) = b ∧ 2 = f := by simpa using h
      clear h
      generalize cntZ s = c at *
      go_enter Try.func62, Try.ntmps62
      go_wp2_with fail
      refine HC.out.mono ?_
      rintro e w1 ⟨rfl, q⟩
      go_wp2
      go_ret3
      exact ⟨rfl, q⟩
    · rename_i h4
      obtain ⟨rfl, rfl, rfl⟩ : cntZ s = n ∧ s.extract 2 s.size = b ∧ 0 = f := by simpa using h
      clear h
      generalize cntZ s = c at *
      go_enter Try.func62, Try.ntmps62
      go_wp2_with fail
      refine HC.out.mono ?_
      rintro e w1 ⟨rfl, q⟩
      go_wp2
      go_ret3
      exact ⟨rfl, q⟩
/-- What is taken as a number. -/
def tn (s : ByteArray) : Nat × ByteArray × Nat := if s.size < 8 then (0, ⟨#[]⟩, 3) else (val ((bl s).take 8), s.extract 8 s.size, 0)
set_option maxHeartbeats 1000000 in
theorem takeNum_any (s : ByteArray) (w : World) (hs : s.size ≤ 1000000000) {n : Nat} {b : ByteArray} {f : Nat} (h : tn s = (n, b, f)) :
    Calls Try.prog 54 #[.string s] w fun e w' => e = .returned (.tuple #[.int .u64 n, .string b, .int .i64 f]) ∧ Q w w' := by
  unfold tn at h
  split at h
  · rename_i h2
    obtain ⟨rfl, rfl, rfl⟩ : 0 = n ∧ (⟨#[]⟩ : ByteArray) = b ∧ 3 = f := by simpa using h
    clear h
    go_enter Try.func54, Try.ntmps54
    go_wp2_with fail
    refine (cut_short s 8 w hs h2 (by omega)).mono ?_
    rintro e w1 ⟨rfl, rfl⟩
    go_wp2
    go_ret3
    exact ⟨rfl, Q.refl _⟩
  · rename_i h2
    have HC := Lib.hid (cut_anyZ s 8 w hs (by omega) (by omega))
    obtain ⟨rfl, rfl, rfl⟩ : val ((bl s).take 8) = n ∧ s.extract 8 s.size = b ∧ 0 = f := by simpa using h
    clear h
    generalize val ((bl s).take 8) = c at *
    go_enter Try.func54, Try.ntmps54
    go_wp2_with fail
    refine HC.out.mono ?_
    rintro e w1 ⟨rfl, q⟩
    go_wp2
    go_ret3
    exact ⟨rfl, q⟩
/-- What is taken as a text: it, what is behind, and the error's number. -/
def tt (s : ByteArray) : ByteArray × ByteArray × Nat :=
  if s.size < 2 then (⟨#[]⟩, ⟨#[]⟩, 3) else if 4000 < cntZ s then (⟨#[]⟩, ⟨#[]⟩, 2) else if s.size < 2 + cntZ s then (⟨#[]⟩, ⟨#[]⟩, 3) else (s.extract 2 (2 + cntZ s), s.extract (2 + cntZ s) s.size, 0)
set_option maxHeartbeats 1000000 in
theorem takeText_any (s : ByteArray) (w : World) (hs : s.size ≤ 1000000000) {x b : ByteArray} {f : Nat} (h : tt s = (x, b, f)) :
    Calls Try.prog 64 #[.string s] w fun e w' => e = .returned (.tuple #[.string x, .string b, .int .i64 f]) ∧ Q w w' := by
  unfold tt at h
  split at h
  · rename_i h2
    obtain ⟨rfl, rfl, rfl⟩ : (⟨#[]⟩ : ByteArray) = x ∧ (⟨#[]⟩ : ByteArray) = b ∧ 3 = f := by simpa using h
    clear h
    have HT : Hid (tc s = (0, ⟨#[]⟩, 3)) := Lib.hid (by rw [tc, if_pos h2])
    go_enter Try.func64, Try.ntmps64
    go_wp2_with fail
    refine (cutCount_any s w hs HT.out).mono ?_
    rintro e w1 ⟨rfl, q⟩
    go_wp2
    go_ret3
    exact ⟨rfl, q⟩
  · rename_i h2
    split at h
    · rename_i h3
      obtain ⟨rfl, rfl, rfl⟩ : (⟨#[]⟩ : ByteArray) = x ∧ (⟨#[]⟩ : ByteArray) = b ∧ 2 = f := by simpa using h
      clear h
      have HT : Hid (tc s = (0, ⟨#[]⟩, 2)) := Lib.hid (by rw [tc, if_neg h2, if_pos h3])
      go_enter Try.func64, Try.ntmps64
      go_wp2_with fail
      refine (cutCount_any s w hs HT.out).mono ?_
      rintro e w1 ⟨rfl, q⟩
      go_wp2
      go_ret3
      exact ⟨rfl, q⟩
    · rename_i h3
      have HT : Hid (tc s = (cntZ s, s.extract 2 s.size, 0)) := Lib.hid (by rw [tc, if_neg h2, if_neg h3])
      have hz : (s.extract 2 s.size).size = s.size - 2 := size_cut s (Nat.le_refl _)
      split at h
      · rename_i h4
        obtain ⟨rfl, rfl, rfl⟩ : (⟨#[]⟩ : ByteArray) = x ∧ (⟨#[]⟩ : ByteArray) = b ∧ 3 = f := by simpa using h
        clear h
        generalize cntZ s = c at *
        obtain ⟨r, hr⟩ : ∃ r, r = s.extract 2 s.size := ⟨_, rfl⟩
        rw [← hr] at HT hz
        clear hr
        have hz' : r.size < c := by omega
        clear hz
        go_enter Try.func64, Try.ntmps64
        go_wp2_with fail
        refine (cutCount_any s w hs HT.out).mono ?_
        rintro e w1 ⟨rfl, q⟩
        go_wp2
        go_ret3
        exact ⟨rfl, q⟩
      · rename_i h4
        have e1 : s.extract 2 (2 + cntZ s) = (s.extract 2 s.size).extract 0 (cntZ s) := by rw [cut_cut, Nat.min_eq_left (by omega)]
        have e2 : s.extract (2 + cntZ s) s.size = (s.extract 2 s.size).extract (cntZ s) (s.extract 2 s.size).size := by rw [cut_cut, hz]; congr 1; omega
        rw [e1, e2] at h
        obtain ⟨r, hr⟩ : ∃ r, r = s.extract 2 s.size := ⟨_, rfl⟩
        rw [← hr] at HT hz h
        clear hr e1 e2
        obtain ⟨rfl, rfl, rfl⟩ : r.extract 0 (cntZ s) = x ∧ r.extract (cntZ s) r.size = b ∧ 0 = f := by simpa using h
        clear h
        generalize cntZ s = c at *
        have hz' : c ≤ r.size := by omega
        have hz2 : r.size ≤ 1000000000 := by omega
        clear hz
        go_enter Try.func64, Try.ntmps64
        go_wp2_with fail
        refine (cutCount_any s w hs HT.out).mono ?_
        rintro e w1 ⟨rfl, q⟩
        go_wp2
        go_region
        go_wp2
        go_ret3
        exact ⟨rfl, q.drew⟩
end Go.Proofs.Ythlbpjopkaninaa

