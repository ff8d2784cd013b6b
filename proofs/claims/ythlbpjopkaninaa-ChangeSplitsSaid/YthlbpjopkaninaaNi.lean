/-
  Contract of the document's Lay of notes. Contracts of the document's TakeList and Same, and of the statements' Few, Texts, awake. Contract of the document's Take of notes. A map of notes' names and stamps, as the call makes it: whether one is in it, and one laid more.
-/
import Derived.Test.YthlbpjopkaninaaNh
import Derived.Test.YthlbpjopkaninaaNg
import Derived.Test.YthlbpjopkaninaaNd
import Derived.DeepKeys4
namespace Go.Proofs.Ythlbpjopkaninaa
set_option maxRecDepth 100000
open Go.ChangeShapes Go.WideShapes Go.ChangeAt Go.RowKit
set_option linter.unusedVariables false
set_option linter.unusedSimpArgs false
set_option maxRecDepth 100000
theorem wp_append_txts {o : Oper} {a : Act} {K : Act → World → Prop} {Q : Exit → Act → World → Prop} (w : World) (s x : Operand)
    (ho : o.op = .call { callee := .builtin .append, args := #[s, x], argTypes := #[59, 59] })
    (base b2 : Nat) (v : Value) (l m : List ByteArray) {A : Option Addr} {n c : Nat} (hs : a.eval s = v) (hx : a.eval x = .slice A n c) (h : w.ownsRow base 9 1 v l.length (l.map Value.string))
    (g : w.ownsRow b2 9 1 (.slice A n c) m.length (m.map Value.string)) (hb : base ≤ w.heap.size) (hl : l.length + m.length ≤ 1000000)
    (k : ∀ v' w', w'.ownsRow base 9 1 v' (l ++ m).length ((l ++ m).map Value.string) → w.grownBy w' v.ownBlock → K (a.put o.dst v') w') : Oper.wp Try.prog o a w K Q := by
  obtain ⟨v', w', h1, h2, h3⟩ := run_append_txts w base b2 o.type v l m h g hb hl
  unfold Oper.wp execOp
  simp only [ho, resolve, invoke, builtin, Sem.run_bind, Sem.run_pure, Result.andThen_ok, List.map_toArray, List.map_cons, List.map_nil, hs, hx, h1]
  exact k v' w' h2 h3
set_option maxHeartbeats 16000000 in
theorem rlayN_any (l : List Nte) (v : Value) (w : World) (hl : l.length ≤ 100000) (ht : Ntes w w.heap.size v l) :
    Calls Try.prog 13 #[v] w fun e w' => e = .returned (.tuple #[.string (layV l).1, .int .i64 ((layV l).2 : Nat)]) ∧ Q w w' := by
  obtain ⟨A, c, rfl, -, -, hok, hcells⟩ := ht
  have HC := Lib.hid hcells
  have HK := Lib.hid hok
  clear hcells hok
  go_enter Try.func13, Try.ntmps13
  go_wp2_with fail
  go_loopw [4, 5, 6] (fun O I G wr => ∃ (i : Nat) (G1 : Value), i ≤ l.length ∧ I = .int .i64 i ∧ G = G1 ∧ OwnT w.heap.size wr O (txN (l.take i)) ∧ Q w wr ∧ Hid (∀ x ∈ l.take i, okNt x = true)) (fun _ I _ _ => l.length - (intOf I).toNat)
  case atStart => exact ⟨0, _, Nat.zero_le _, rfl, rfl, OwnT.nil _ _, Q.refl _, Lib.hid (by simp)⟩
  case round =>
    obtain ⟨i, G1, hil, rfl, rfl, hown, hbel, HOK⟩ := hrel
    by_cases hlt : i < l.length
    · obtain ⟨a, hAa, ha, hat⟩ := HC.out i hlt
      subst hAa
      obtain ⟨c0, c1, c2, c3⟩ := hat.keep (by rw [add_block]; exact ha) fun p hp => hbel.cell hp
      have HAT : Hid (∀ x, Q w x → AtW x (a.add (i * 4)) l[i]) := Lib.hid fun x qx => hat.keep (by rw [add_block]; exact ha) fun p hp => qx.cell hp
      have hst := (HK.out _ (List.getElem_mem hlt)).1
      have HW := Lib.hid (txN_take l i hlt)
      have HB := Lib.hid (fun (k : okNt l[i] = false) => layV_bad (List.getElem_mem hlt) k)
      have HG := Lib.hid (fun (k : okNt l[i] = true) => okNt_step hlt HOK.out k)
      have hlen : (txN (l.take i)).length ≤ 400000 := by rw [txN_len, List.length_take]; omega
      obtain ⟨y, hy⟩ : ∃ y, y = l[i] := ⟨_, rfl⟩
      rw [← hy] at c0 c1 c2 c3 HW hst HB HG HAT
      clear hy hat
      have hilt : (i : Int) < (l.length : Int) := by omega
      have M := Lib.hid (fun (x : World) => rmayN_any y x)
      have R1 := Lib.hid (fun (x : World) => rnum_any y.st x hst)
      have R2 : Hid (∀ (x : World), Calls Try.prog 34 #[.int .u64 (if y.gone then 1 else 0)] x fun e w' => e = .returned (.string (mk (oct (gN y.gone) 8))) ∧ Q x w') := Lib.hid (by
        intro x
        cases y.gone with
        | true => exact rnum_any 1 x (by decide)
        | false => exact rnum_any 0 x (by decide))
      have HT : Hid (tN y = [mk (oct y.st 8), y.n, mk (oct (gN y.gone) 8), y.val]) := Lib.hid rfl
      rw [HT.out] at HW
      have KS : Hid (∀ x, Q w x → (fun W => W.cell? (a.add (i * 4)) = some (.int .u64 (y.st : Nat)) ∧ W.cell? ⟨(a.add (i * 4)).block, (a.add (i * 4)).off + 1, none⟩ = some (.string y.n) ∧ W.cell? ⟨(a.add (i * 4)).block, (a.add (i * 4)).off + 2, none⟩ = some (.string y.val)) x) := Lib.hid fun x qx => ⟨(HAT.out x qx).1, (HAT.out x qx).2.1, (HAT.out x qx).2.2.1⟩
      generalize hr1 : mk (oct y.st 8) = r1 at *
      generalize hr2 : mk (oct (gN y.gone) 8) = r2 at *
      rw [nte] at M
      clear HT hr1 hr2
      have HBEL := Lib.hid hbel
      have OWN := Lib.hid hown
      clear hbel hown
      cases hg : okNt y with
      | false =>
        rw [hg] at M
        have HV := Lib.hid (HB.out hg)
        clear HB HG hg
        go_wp2_with fail
        refine (M.out _).mono ?_
        rintro e w1 ⟨rfl, q1⟩
        go_wp2_with fail
        go_ret2
        exact ⟨by rw [HV.out]; rfl, HBEL.out.trans q1⟩
      | true =>
        rw [hg] at M
        have HV := Lib.hid (HG.out hg)
        clear HB HG hg
        go_wp2_with fail
        refine (M.out _).mono ?_
        rintro e w1 ⟨rfl, q1⟩
        have p1 := HBEL.out.trans q1
        have own1 := OWN.out.on q1
        obtain ⟨c0, c1, c2, c3⟩ := HAT.out _ p1
        have P1 := Lib.hid p1
        have OWN := Lib.hid own1
        clear p1 own1 q1
        cases hgo : y.gone with
        | true =>
          rw [hgo] at R2 c3
          simp only [if_true] at R2
          clear hgo
          go_upto_region 10 with fail
          have q0 := P1.out.drew
          have o0 := OWN.out.on ((Q.refl w1).drew)
          clear c0 c1 c2 c3
          refine wp_region_held_drew (S := (fun W => W.cell? (a.add (i * 4)) = some (.int .u64 (y.st : Nat)) ∧ W.cell? ⟨(a.add (i * 4)).block, (a.add (i * 4)).off + 1, none⟩ = some (.string y.n) ∧ W.cell? ⟨(a.add (i * 4)).block, (a.add (i * 4)).off + 2, none⟩ = some (.string y.val))) (by kernel_rfl) (KS.out _ q0) (fun hHeld => ?_)
          refine tkV 0 ?_
          refine tkV 1 ?_
          refine tkV 2 ?_
          refine tkV 3 ?_
          refine tkV 4 ?_
          refine tkV 5 ?_
          refine tkV 7 ?_
          refine tkV 8 ?_
          refine tkV 9 ?_
          refine tkV 10 ?_
          refine tkV 11 ?_
          refine tkV 12 ?_
          refine tkV 13 ?_
          refine tkV 15 ?_
          refine tkV 16 ?_
          refine tkV 17 ?_
          refine tkV 18 ?_
          refine tkV 19 ?_
          refine tkV 20 ?_
          refine aR [6] ?_
          refine AllReadyH.cons (o := _) rfl (fun K hK => ?_) AllReadyH.nil
          go_simp
          go_at_call 34
          refine (R1.out _).mono ?_
          rintro e x1 ⟨rfl, d1⟩
          have q1 := q0.trans d1
          have o1 := o0.on d1
          refine hK.out _ _ (KS.out _ q1) (fun hHeld2 => ?_)
          clear hK K
          refine pg ?_
          refine aR [14] ?_
          refine AllReadyH.cons (o := _) rfl (fun K hK => ?_) AllReadyH.nil
          go_simp
          go_at_call 34
          refine (R2.out _).mono ?_
          rintro e x2 ⟨rfl, d2⟩
          have q2 := q1.trans d2
          have o2 := o1.on d2
          refine hK.out _ _ (KS.out _ q2) (fun hHeld2 => ?_)
          clear hK K
          refine pg ?_
          refine aR [21] ?_
          refine AllReadyH.cons (o := _) rfl (fun K hK => ?_) AllReadyH.nil
          go_simp
          have hz2 := q2.size
          have q9 := q2.alloc (.cells #[.string r1, .string y.n, .string r2, .string y.val] 9)
          have o9 := o2.on ((Q.refl x2).alloc (.cells #[.string r1, .string y.n, .string r2, .string y.val] 9))
          have f9 := four_own w.heap.size x2 r1 y.n r2 y.val (by omega)
          refine hK.out _ _ (KS.out _ q9) (fun hHeld2 => ?_)
          clear hK K
          refine pg ?_
          refine aR [22] ?_
          refine AllReadyH.cons (o := _) rfl (fun K hK => ?_) AllReadyH.nil
          refine wp_append_txts _ _ _ rfl w.heap.size _ _ _ _ rfl rfl o9 f9 ?hb ?hl ?_
          case hb => exact q9.size
          case hl => show _ + 4 ≤ _; omega
          intro v8 w8 o8 g8
          have q8 : Q w w8 := Below.grown q9 g8 q9.size (fun k hk => (World.ownsRow.lt o9 k hk).1)
          have o8 : OwnT w.heap.size w8 v8 (txN (l.take (i + 1))) := by rw [HW.out]; exact o8
          refine hK.out _ _ (KS.out _ q8) (fun hHeld2 => ?_)
          clear hK K
          refine pg ?_
          refine tkV 23 ?_
          refine wpAnyH_done (by kernel_rfl) ?_ _
          go_wp2_with fail
          go_roundw
          case rel => exact ⟨i + 1, _, by omega, by go_num, rfl, o8, q8, HV⟩
          case measure => simp [intOf]; omega
        | false =>
          rw [hgo] at R2 c3
          simp only [Bool.false_eq_true, if_false] at R2
          clear hgo
          go_upto_region 10 with fail
          have q0 := P1.out.drew
          have o0 := OWN.out.on ((Q.refl w1).drew)
          clear c0 c1 c2 c3
          refine wp_region_held_drew (S := (fun W => W.cell? (a.add (i * 4)) = some (.int .u64 (y.st : Nat)) ∧ W.cell? ⟨(a.add (i * 4)).block, (a.add (i * 4)).off + 1, none⟩ = some (.string y.n) ∧ W.cell? ⟨(a.add (i * 4)).block, (a.add (i * 4)).off + 2, none⟩ = some (.string y.val))) (by kernel_rfl) (KS.out _ q0) (fun hHeld => ?_)
          refine tkV 0 ?_
          refine tkV 1 ?_
          refine tkV 2 ?_
          refine tkV 3 ?_
          refine tkV 4 ?_
          refine tkV 5 ?_
          refine tkV 7 ?_
          refine tkV 8 ?_
          refine tkV 9 ?_
          refine tkV 10 ?_
          refine tkV 11 ?_
          refine tkV 12 ?_
          refine tkV 13 ?_
          refine tkV 15 ?_
          refine tkV 16 ?_
          refine tkV 17 ?_
          refine tkV 18 ?_
          refine tkV 19 ?_
          refine tkV 20 ?_
          refine aR [6] ?_
          refine AllReadyH.cons (o := _) rfl (fun K hK => ?_) AllReadyH.nil
          go_simp
          go_at_call 34
          refine (R1.out _).mono ?_
          rintro e x1 ⟨rfl, d1⟩
          have q1 := q0.trans d1
          have o1 := o0.on d1
          refine hK.out _ _ (KS.out _ q1) (fun hHeld2 => ?_)
          clear hK K
          refine pg ?_
          refine aR [14] ?_
          refine AllReadyH.cons (o := _) rfl (fun K hK => ?_) AllReadyH.nil
          go_simp
          go_at_call 34
          refine (R2.out _).mono ?_
          rintro e x2 ⟨rfl, d2⟩
          have q2 := q1.trans d2
          have o2 := o1.on d2
          refine hK.out _ _ (KS.out _ q2) (fun hHeld2 => ?_)
          clear hK K
          refine pg ?_
          refine aR [21] ?_
          refine AllReadyH.cons (o := _) rfl (fun K hK => ?_) AllReadyH.nil
          go_simp
          have hz2 := q2.size
          have q9 := q2.alloc (.cells #[.string r1, .string y.n, .string r2, .string y.val] 9)
          have o9 := o2.on ((Q.refl x2).alloc (.cells #[.string r1, .string y.n, .string r2, .string y.val] 9))
          have f9 := four_own w.heap.size x2 r1 y.n r2 y.val (by omega)
          refine hK.out _ _ (KS.out _ q9) (fun hHeld2 => ?_)
          clear hK K
          refine pg ?_
          refine aR [22] ?_
          refine AllReadyH.cons (o := _) rfl (fun K hK => ?_) AllReadyH.nil
          refine wp_append_txts _ _ _ rfl w.heap.size _ _ _ _ rfl rfl o9 f9 ?hb ?hl ?_
          case hb => exact q9.size
          case hl => show _ + 4 ≤ _; omega
          intro v8 w8 o8 g8
          have q8 : Q w w8 := Below.grown q9 g8 q9.size (fun k hk => (World.ownsRow.lt o9 k hk).1)
          have o8 : OwnT w.heap.size w8 v8 (txN (l.take (i + 1))) := by rw [HW.out]; exact o8
          refine hK.out _ _ (KS.out _ q8) (fun hHeld2 => ?_)
          clear hK K
          refine pg ?_
          refine tkV 23 ?_
          refine wpAnyH_done (by kernel_rfl) ?_ _
          go_wp2_with fail
          go_roundw
          case rel => exact ⟨i + 1, _, by omega, by go_num, rfl, o8, q8, HV⟩
          case measure => simp [intOf]; omega
    · have h2 : ¬ (i : Int) < (l.length : Int) := by omega
      have hti : l.take i = l := List.take_of_length_le (by omega)
      rw [hti] at hown HOK
      clear hti
      by_cases h0 : l.length = 0
      · have HV := Lib.hid (layV_len (l := l) (.inl h0))
        have h0' : ((l.length : Int) == 0) = true := by simp [h0]
        have h0'' : (l.length : Int) = 0 := by omega
        have hq := Lib.hid hbel
        clear h0 hown hbel
        go_wp2_with fail
        go_ret2
        exact ⟨by rw [HV.out]; rfl, hq.out⟩
      have hb0 : ((l.length : Int) == 0) = false := beq_false_of_ne (by omega)
      have hb0' : ¬ ((l.length : Int) = 0) := by omega
      by_cases h1 : 100 < l.length
      · have HV := Lib.hid (layV_len (l := l) (.inr h1))
        have h1' : (100 : Int) < (l.length : Int) := by omega
        have hq := Lib.hid hbel
        clear h0 hown hbel
        go_wp2_with fail
        go_ret2
        exact ⟨by rw [HV.out]; rfl, hq.out⟩
      have h1' : ¬ (100 : Int) < (l.length : Int) := by omega
      have HV := Lib.hid (layV_yes HOK.out (by omega))
      have HV2 := Lib.hid (layV_big HOK.out (by omega))
      have hok := txN_ok HOK.out (by omega)
      obtain ⟨A2, c2, rfl⟩ := hown.form
      have hrd := Txts.own hown
      have L := Lib.hid (rlist_any (txN l) _ wr (by rw [txN_len]; omega) (fun s hs => Nat.le_trans (txN_size HOK.out s hs) (by omega)) hrd)
      rw [rlstV_yes hok] at L
      have hsz : (lst (txN l)).length = (mk (lst (txN l))).size := (mk_size _).symm
      rw [hsz] at HV HV2
      generalize hz : mk (lst (txN l)) = Z at L HV HV2
      clear hrd hown hok hsz hz h0
      by_cases hbig : 12000 < Z.size
      · have hbig' : (12000 : Int) < (Z.size : Int) := by omega
        have HV := Lib.hid (HV2.out hbig)
        clear HV2
        go_wp2_with fail
        refine (L.out).mono ?_
        rintro e w3 ⟨rfl, q3⟩
        go_wp2_with fail
        go_ret2
        exact ⟨by rw [HV.out]; rfl, hbel.trans q3⟩
      · have hbig' : ¬ (12000 : Int) < (Z.size : Int) := by omega
        have HV := Lib.hid (HV.out hbig)
        clear HV2
        go_wp2_with fail
        refine (L.out).mono ?_
        rintro e w3 ⟨rfl, q3⟩
        go_wp2_with fail
        go_ret2
        exact ⟨by rw [HV.out]; rfl, hbel.trans q3⟩
end Go.Proofs.Ythlbpjopkaninaa

namespace Go.Proofs.Ythlbpjopkaninaa
set_option maxRecDepth 100000
open Go.ChangeShapes Go.WideShapes Go.ChangeAt Go.RowKit
set_option linter.unusedVariables false
/-- What the document's TakeList leaves. -/
def RTookP (w : World) (s : ByteArray) (r : List ByteArray × ByteArray × Nat) (e : Ending) (w' : World) : Prop :=
  ∃ A n c, ∃ at_ : Nat, e = .returned (.tuple #[.slice A n c, .int .i64 at_, .int .i64 (r.2.2 : Nat)]) ∧ Txts w' w'.heap.size (.slice A n c) r.1 ∧ Q w w' ∧ (r.2.2 = 0 → at_ ≤ s.size ∧ r.2.1 = s.extract at_ s.size) ∧ (¬ r.2.2 = 0 → at_ = 0)
theorem tt_at {x y b : ByteArray} (h : tt x = (y, b, 0)) : ttn x ≤ x.size ∧ b = x.extract (ttn x) x.size := by
  have hn : ttn x = 2 + cntZ x := by rw [ttn, h]; rfl
  rw [hn]
  unfold tt at h
  split at h
  · simp at h
  · split at h
    · simp at h
    · split at h
      · simp at h
      · simp at h; exact ⟨by omega, h.2.symm⟩
theorem own_on {w w' : World} {B base : Nat} {e : TypeId} {v : Value} {n : Nat} {xs : List Value} (h : w.ownsRow base e 1 v n xs) (q : Q w w') : w'.ownsRow base e 1 v n xs := by
  rcases h.2 with ⟨rfl, h0⟩ | ⟨g, cap, cur, rfl, hb, hg, h6⟩
  · exact ⟨h.1, .inl ⟨rfl, h0⟩⟩
  · exact ⟨h.1, .inr ⟨g, cap, cur, rfl, hb, (q.block g (lt_of_block hg)).trans hg, h6⟩⟩
/-- One text more at the end of a row of the call's own. -/
theorem row_step {B : Nat} {w w1 w2 : World} {g : List ByteArray} {x : ByteArray} {v v1 : Value} {o : Obj} (hb : Below B w w1) (hB : B ≤ w.heap.size)
    (h3 : w1.ownsRow B 9 1 v g.length (g.map Value.string)) (ho : w2.ownsRow B 9 1 v1 (g.length + 1) (g.map Value.string ++ [Value.string x])) (hg : (w1.alloc o).grownBy w2 v.ownBlock) :
    w2.ownsRow B 9 1 v1 (g ++ [x]).length ((g ++ [x]).map Value.string) ∧ Below B w w2 := by
  have hs := hb.size
  refine ⟨by rw [List.length_append, List.length_singleton, List.map_append, List.map_singleton]; exact ho, ?_⟩
  exact (hb.alloc (by omega) o).grown hg (by simp; omega) (fun k hk => (World.ownsRow.lt h3 k hk).1)
set_option maxHeartbeats 2000000 in
theorem rtakeList_any (s : ByteArray) (w : World) (hs : s.size ≤ 1000000000) :
    Calls Try.prog 38 #[.string s] w (RTookP w s (tls s)) := by
  obtain ⟨i0, hi0, hz0, hz1, hz2⟩ := info_parts info_str
  obtain ⟨⟨n, r, f⟩, htc⟩ : ∃ x, tc s = x := ⟨_, rfl⟩
  have hsz := tc_size s
  have HC := Lib.hid (rcnt_any s w hs)
  have HS : Hid (tls s = if f = 0 then tl n r else ([], ⟨#[]⟩, f)) := Lib.hid (by rw [tls, htc])
  rw [htc] at hsz HC
  obtain ⟨hr, hn⟩ : r.size ≤ s.size ∧ n ≤ 4000 := hsz
  by_cases hf : f = 0
  · subst hf
    have hr2 : 2 ≤ s.size ∧ r = s.extract 2 s.size := by
      unfold tc at htc
      split at htc
      · simp at htc
      · split at htc
        · simp at htc
        · simp at htc; exact ⟨by omega, htc.2.symm⟩
    obtain ⟨h2, hr2⟩ := hr2
    have HR := Lib.hid hr2
    clear hr2 htc
    have HE : Hid (tls s = ahead [] (tl n r)) := Lib.hid (by rw [HS.out, if_pos rfl, ahead_nil])
    clear HS
    go_enter Try.func38, Try.ntmps38
    go_wp2_with fail
    refine HC.out.mono ?_
    rintro e w1 ⟨rfl, q⟩
    go_wp2_with fail
    go_loopw [7, 8, 9] (fun v P i wr => ∃ (j at_ : Nat) (g : List ByteArray) (x : ByteArray), j ≤ n ∧ g.length ≤ j ∧ at_ ≤ s.size ∧ i = .int .i64 j ∧ P = .int .i64 at_ ∧ Hid (x = s.extract at_ s.size) ∧ wr.ownsRow w.heap.size 9 1 v g.length (g.map Value.string) ∧ Below w.heap.size w wr ∧ Hid (tls s = ahead g (tl (n - j) x))) (fun _ _ i _ => n - (intOf i).toNat)
    case atStart => exact ⟨0, 2, [], r, Nat.zero_le _, Nat.zero_le _, h2, rfl, rfl, HR, World.ownsRow_nil _ _ _ _, q, Lib.hid HE.out⟩
    case round =>
      obtain ⟨j, p, g, x, hj, hg, hp, rfl, rfl, HX, hown, hbel, HA⟩ := hrel
      by_cases hlt : j < n
      · obtain ⟨⟨y, b, f⟩, htt⟩ : ∃ z, tt x = z := ⟨_, rfl⟩
        have hxs : x.size = s.size - p := by rw [HX.out, size_cut _ (Nat.le_refl _)]
        have HY := Lib.hid htt
        have HT := Lib.hid (rtakeText_any x wr (by omega))
        rw [htt] at HT
        rw [HX.out] at HT
        clear htt
        by_cases hf : f = 0
        · subst hf
          obtain ⟨ha, hb⟩ := tt_at HY.out
          have ha' : ttn x ≤ s.size - p := by omega
          have HB : Hid (b = s.extract (p + ttn x) s.size) := Lib.hid (by rw [hb, hxs, HX.out, cut_cut]; congr 1; omega)
          rw [← HX.out] at HT
          obtain ⟨d, hd⟩ : ∃ d, d = ttn x := ⟨_, rfl⟩
          rw [← hd] at HT HB ha'
          rw [HX.out] at HT
          clear hxs hb ha hd
          go_wp2_with fail
          refine HT.out.mono ?_
          rintro e w2 ⟨rfl, q2⟩
          have hown2 := own_on (B := 0) hown q2
          have hbel2 : Below w.heap.size w w2 := Q.trans hbel q2
          have hs2 := hbel2.size
          clear hown
          go_wp2_with (first | (at_builtin; refine wpList_append_own _ rfl _ _ 59 rfl w.heap.size 9 i0 (.string ⟨#[]⟩) 1 16 Try.underlying59 hi0 hz0 hz1 hz2 rfl (by decide) _ g.length (g.map Value.string) rfl (World.ownsRow.alloc hown2 _) ⟨w2.heap.size, 0, none⟩ 1 1 [.string y] rfl rfl (cell_oneZ _ _ _) (by intro u hu; simp at hu; subst hu; rfl) (by unfold maxLen; omega) (by omega) (by simp; omega) ?_; intro v1 w3 ho hgr _; have R := row_step hbel2 (Nat.le_refl _) hown2 ho hgr; clear ho hgr))
          go_roundw
          case rel => exact ⟨j + 1, p + d, g ++ [y], b, by omega, by rw [List.length_append, List.length_singleton]; omega, by omega, by go_num, by go_num, HB, R.1, R.2, Lib.hid (by rw [HA.out, show n - j = (n - (j + 1)) + 1 by omega, ahead_step HY.out])⟩
          case measure => simp [intOf]; omega
        · have HE : Hid (tls s = ([], ⟨#[]⟩, f)) := Lib.hid (by rw [HA.out, show n - j = (n - (j + 1)) + 1 by omega, ahead_bad HY.out hf])
          obtain ⟨d, hd⟩ : ∃ d, d = ttn (s.extract p s.size) := ⟨_, rfl⟩
          rw [← hd] at HT
          clear hxs hd
          go_wp2_with fail
          refine HT.out.mono ?_
          rintro e w2 ⟨rfl, q2⟩
          go_wp2_with fail
          go_ret3
          exact ⟨none, 0, 0, 0, by rw [HE.out]; rfl, by rw [HE.out]; exact Txts.nil _ _, Q.trans hbel q2, fun h => by rw [HE.out] at h; exact absurd h hf, fun _ => rfl⟩
      · have HE : Hid (tls s = (g, x, 0)) := Lib.hid (by rw [HA.out, show n - j = 0 by omega, tl]; simp [ahead])
        obtain ⟨A, m, c, rfl⟩ := own_slice hown
        have ht := Lib.hid (Txts.own hown)
        clear hown
        go_wp2
        go_ret3
        exact ⟨A, m, c, p, by rw [HE.out]; rfl, by rw [HE.out]; exact ht.out, hbel, fun _ => ⟨hp, by rw [HE.out]; exact HX.out⟩, fun h => by rw [HE.out] at h; exact absurd rfl h⟩
  · have HE : Hid (tls s = ([], ⟨#[]⟩, f)) := Lib.hid (by rw [HS.out, if_neg hf])
    clear HS
    go_enter Try.func38, Try.ntmps38
    go_wp2_with fail
    refine HC.out.mono ?_
    rintro e w1 ⟨rfl, q⟩
    go_wp2
    go_ret3
    exact ⟨none, 0, 0, 0, by rw [HE.out]; rfl, by rw [HE.out]; exact Txts.nil _ _, q, fun h => by rw [HE.out] at h; exact absurd h hf, fun _ => rfl⟩
end Go.Proofs.Ythlbpjopkaninaa

namespace Go.Proofs.Ythlbpjopkaninaa
set_option maxRecDepth 100000
open Go.ChangeShapes Go.WideShapes Go.ChangeAt Go.RowKit
set_option linter.unusedVariables false
set_option linter.unusedSimpArgs false
set_option maxRecDepth 100000
theorem wp_snocN {o : Oper} {a : Act} {K : Act → World → Prop} {Q : Exit → Act → World → Prop} (w : World) (s x : Operand) (t : TypeId)
    (htt : Try.prog.underlying t = some (.slice 39)) (ho : o.op = .call { callee := .builtin .append, args := #[s, x], argTypes := #[t, t] })
    (base g : Nat) (v : Value) (l : List Nte) (y : Nte) {c : Nat} (hs : a.eval s = v) (hx : a.eval x = .slice (some ⟨g, 0, none⟩) 1 c) (hgg : ∀ j u, (ncl y)[j]? = some u → w.cell? ((⟨g, 0, none⟩ : Addr).add j) = some u) (h : OwnW base w v l)
    (hb : base ≤ w.heap.size) (hl : l.length ≤ 4000000)
    (k : ∀ v' w', OwnW base w' v' (l ++ [y]) → w.grownBy w' v.ownBlock → K (a.put o.dst v') w') : Oper.wp Try.prog o a w K Q := by
  obtain ⟨i0, hi0, hz0, hz1, hz2⟩ := info_parts info_nte
  obtain ⟨v', w', h1, h2, h3, -⟩ := run_append_own (P := Try.prog) w base t o.type 39 i0 (.agg #[.int .u64 0, .string ⟨#[]⟩, .string ⟨#[]⟩, .bool false]) 4 48 htt hi0 hz0 hz1 hz2 rfl (by decide) v l.length (l.flatMap ncl) h ⟨g, 0, none⟩ 1 c (ncl y) rfl hgg (ncl_one y) (by unfold maxLen; omega) (by omega) hb
  unfold Oper.wp execOp
  simp only [ho, resolve, invoke, builtin, Sem.run_bind, Sem.run_pure, Result.andThen_ok, List.map_toArray, List.map_cons, List.map_nil, hs, hx, h1]
  exact k v' w' (OwnW.onto (M := [y]) (by simpa using h2) rfl) h3
/-- What the document's Take of notes leaves. -/
def RTakeN (w : World) (s : ByteArray) (e : Ending) (w' : World) : Prop := ∃ v', e = .returned (.tuple #[v', .bool (takeV s).isSome]) ∧ OwnW w.heap.size w' v' (tknL s) ∧ Q w w'
theorem RTakeN.no {w w' : World} {s : ByteArray} (h : takeV s = none) (q : Q w w') : RTakeN w s (.returned (.tuple #[.slice none 0 0, .bool false])) w' :=
  ⟨_, by rw [h]; rfl, by rw [(tk_none h).1]; exact OwnW.nil _ _, q⟩
theorem RTakeN.yes {w w' : World} {s : ByteArray} {v : Value} {l : List Nte} (h : takeV s = some l) (o : OwnW w.heap.size w' v l) (q : Q w w') : RTakeN w s (.returned (.tuple #[v, .bool true])) w' :=
  ⟨_, by rw [h]; rfl, by rw [(tk_some h).1]; exact o, q⟩
theorem note_form (a b c d : ByteArray) : nte (noteV a b c d) = .agg #[.int .u64 ((tn a).1 : Nat), .string b, .string d, .bool (c.toList == (mk (oct 1 8)).toList)] := by rw [noteV, nte, eq_texts]
set_option maxHeartbeats 16000000 in
theorem rtakeN_any (s : ByteArray) (w : World) (hs : s.size ≤ 1000000) :
    Calls Try.prog 15 #[.string s] w (RTakeN w s) := by
  have HW := Lib.hid (rtakeList_any s w (by omega))
  obtain ⟨⟨t, r, f⟩, hwt⟩ : ∃ x, tls s = x := ⟨_, rfl⟩
  have hsz := whl_szs s
  have hwl : whl s = if f = 0 then (if r.size = 0 then (t, 0) else ([], 2)) else ([], f) := by rw [whl, hwt]
  rw [hwt] at HW
  unfold RTookP at HW
  simp only at HW
  by_cases hf : f = 0
  · subst hf
    simp only [if_true] at hwl
    by_cases hr : r.size = 0
    · rw [if_pos hr] at hwl
      rw [hwl] at hsz
      obtain ⟨hn, hz⟩ := hsz
      simp only at hn hz
      by_cases h4 : t.length % 4 = 0
      · have hm2 : ((t.length : Int) % 4 != 0) = false := by simp; omega
        have HNO := Lib.hid (fun k => takeV_no hwl k)
        have HYE := Lib.hid (fun k => takeV_yes hwl h4 k)
        have HST : Hid (∀ (i : Nat) (h : i * 4 < t.length), ¬ (tn t[i * 4]).2.2 = 0 → i < t.length / 4 → takeV s = none) := Lib.hid (fun i h k hi => takeV_stamp hwl hi k)
        have HRK := Lib.hid (rawN_okW (n := t.length / 4) hz (by omega))
        have HRL := rawN_len t (t.length / 4)
        have HZ := Lib.hid hz
        obtain ⟨n, hnn⟩ : ∃ n, n = t.length / 4 := ⟨_, rfl⟩
        rw [← hnn] at HNO HYE HRK HRL HST
        have HT4 : Hid (t.length = n * 4) := Lib.hid (by omega)
        have hn1 : n ≤ 1000 := by omega
        clear h4 hz hwl hnn hwt
        go_enter Try.func15, Try.ntmps15
        go_wp2_with fail
        refine (HW.out).mono ?_
        rintro e w1 ⟨A, m, c, at_, rfl, ht, q, hat, -⟩
        obtain ⟨A', c', e1, hcells⟩ := ht
        injection e1 with e1 e2 e3
        subst e1 e2 e3
        have hat2 : at_ = s.size := by
          obtain ⟨h1, h2⟩ := (by first | exact hat rfl | exact hat trivial)
          rw [h2, size_cut _ (Nat.le_refl _)] at hr
          omega
        subst hat2
        have hne : ((s.size : Int) != (s.size : Int)) = false := by simp
        have HC := Lib.hid hcells
        have HQ1 := Lib.hid q
        clear hcells q HW hat hr
        go_wp2_with fail
        go_loopw [7, 8, 9, 10] (fun O I G1 G2 wr => ∃ j p : Nat, j ≤ n ∧ Hid (p = j * 4) ∧ p ≤ t.length ∧ I = .int .i64 (p : Nat) ∧ OwnW w1.heap.size wr O (rawN t j) ∧ Q w1 wr) (fun _ I _ _ _ => t.length - (intOf I).toNat)
        case atStart => exact ⟨0, 0, Nat.zero_le _, Lib.hid rfl, Nat.zero_le _, rfl, OwnW.nil _ _, Q.refl _⟩
        case round =>
          obtain ⟨j, p, hj, HP, hpl, rfl, hown, hbel⟩ := hrel
          by_cases hlt : j < n
          · have hp4 : p + 4 ≤ t.length := by have := HP.out; have := HT4.out; omega
            obtain ⟨a, rfl, ha, h0⟩ := HC.out p (by omega)
            have k1 : w1.cell? (a.add (p + 1)) = some (.string (t[p + 1]'(by omega))) := by obtain ⟨a', e', -, h⟩ := HC.out (p + 1) (by omega); injection e' with e'; rw [e']; exact h
            have k2 : w1.cell? (a.add (p + 2)) = some (.string (t[p + 2]'(by omega))) := by obtain ⟨a', e', -, h⟩ := HC.out (p + 2) (by omega); injection e' with e'; rw [e']; exact h
            have k3 : w1.cell? (a.add (p + 3)) = some (.string (t[p + 3]'(by omega))) := by obtain ⟨a', e', -, h⟩ := HC.out (p + 3) (by omega); injection e' with e'; rw [e']; exact h
            have hsz0 := HZ.out _ (List.getElem_mem (show p < t.length by omega))
            have HV : Hid (rawN t (j + 1) = rawN t j ++ [noteV (t[p]'(by omega)) (t[p + 1]'(by omega)) (t[p + 2]'(by omega)) (t[p + 3]'(by omega))]) := Lib.hid (by
              rw [rawN_succ, noteAt_is (by have := HP.out; omega)]
              have := HP.out
              subst this
              rfl)
            have HS2 : Hid (¬ (tn (t[p]'(by omega))).2.2 = 0 → takeV s = none) := Lib.hid (by
              intro k
              have e := HP.out
              subst e
              exact HST.out j (by omega) k hlt)
            obtain ⟨b0, hb0⟩ : ∃ z, z = t[p]'(by omega) := ⟨_, rfl⟩
            obtain ⟨b1, hb1⟩ : ∃ z, z = t[p + 1]'(by omega) := ⟨_, rfl⟩
            obtain ⟨b2, hb2⟩ : ∃ z, z = t[p + 2]'(by omega) := ⟨_, rfl⟩
            obtain ⟨b3, hb3⟩ : ∃ z, z = t[p + 3]'(by omega) := ⟨_, rfl⟩
            rw [← hb0] at h0 HV HS2 hsz0
            rw [← hb1] at k1 HV
            rw [← hb2] at k2 HV
            rw [← hb3] at k3 HV
            clear hb0 hb1 hb2 hb3
            have C := Lib.hid (fun (x : World) => rtakeNum_any b0 x (by omega))
            have C2 : Hid (∀ y : World, Calls Try.prog 34 #[.int .u64 1] y fun e w' => e = .returned (.string (mk (oct 1 8))) ∧ Q y w') := Lib.hid (fun (y : World) => rnum_any 1 y (by decide))
            have HNF := Lib.hid (note_form b0 b1 b2 b3)
            obtain ⟨z, hz⟩ : ∃ z, z = noteV b0 b1 b2 b3 := ⟨_, rfl⟩
            rw [← hz] at HV HNF
            obtain ⟨zs, zn, zv, zg⟩ := z
            obtain ⟨⟨n0, r0, f0⟩, ht0⟩ : ∃ x, tn b0 = x := ⟨_, rfl⟩
            rw [ht0] at C HS2 HNF
            simp only at C HS2 HNF
            have hlen : (rawN t j).length ≤ 1000 := by rw [rawN_len]; omega
            have hplt : (p : Int) < (t.length : Int) := by omega
            obtain ⟨p1, hq1⟩ : ∃ z, z = p + 1 := ⟨_, rfl⟩
            rw [← hq1] at k1
            have hp1 : (p1 : Int) < (t.length : Int) := by omega
            have hw1 : IntKind.i64.wrap ((p : Int) + 1) = (p1 : Int) := by rw [IntKind.wrap_i64] <;> omega
            obtain ⟨p2, hq2⟩ : ∃ z, z = p + 2 := ⟨_, rfl⟩
            rw [← hq2] at k2
            have hp2 : (p2 : Int) < (t.length : Int) := by omega
            have hw2 : IntKind.i64.wrap ((p : Int) + 2) = (p2 : Int) := by rw [IntKind.wrap_i64] <;> omega
            obtain ⟨p3, hq3⟩ : ∃ z, z = p + 3 := ⟨_, rfl⟩
            rw [← hq3] at k3
            have hp3 : (p3 : Int) < (t.length : Int) := by omega
            have hw3 : IntKind.i64.wrap ((p : Int) + 3) = (p3 : Int) := by rw [IntKind.wrap_i64] <;> omega
            have c0 := (hbel.cell (p := a.add p) (by rw [add_block]; exact ha)).trans h0
            have KS : Hid (∀ x, Q w1 x → (fun W => W.cell? (a.add p1) = some (.string b1) ∧ W.cell? (a.add p2) = some (.string b2) ∧ W.cell? (a.add p3) = some (.string b3)) x) := Lib.hid fun x qx => ⟨(qx.cell (by rw [add_block]; exact ha)).trans k1, (qx.cell (by rw [add_block]; exact ha)).trans k2, (qx.cell (by rw [add_block]; exact ha)).trans k3⟩
            have HAT := Lib.hid ht0
            have HBEL := Lib.hid hbel
            have OWN := Lib.hid hown
            generalize hr1 : mk (oct 1 8) = r1 at *
            clear h0 k1 k2 k3 hsz0 ha hz ht0 hown hbel hr1 hq1 hq2 hq3
            by_cases hf0 : f0 = 0
            · subst hf0
              have hd : decide ((0 : Nat) = 0) = true := rfl
              rw [hd] at C
              clear HS2 hd
              go_wp2_with fail
              refine (C.out _).mono ?_
              rintro e w2 ⟨rfl, rfl⟩
              clear C c0
              go_upto_region 11 with fail
              have q0 := HBEL.out.drew
              have o0 := OWN.out.on ((Q.refl wr).drew)
              refine wp_region_held_drew (S := (fun W => W.cell? (a.add p1) = some (.string b1) ∧ W.cell? (a.add p2) = some (.string b2) ∧ W.cell? (a.add p3) = some (.string b3))) (by kernel_rfl) (KS.out _ q0) (fun hHeld => ?_)
              refine tkV 0 ?_
              refine tkV 1 ?_
              refine tkV 2 ?_
              refine tkV 3 ?_
              refine tkV 4 ?_
              refine tkV 5 ?_
              refine tkV 6 ?_
              refine tkV 7 ?_
              refine tkV 8 ?_
              refine tkV 9 ?_
              refine tkV 10 ?_
              refine tkV 11 ?_
              refine tkV 14 ?_
              refine tkV 15 ?_
              refine tkV 16 ?_
              refine tkV 17 ?_
              refine tkV 18 ?_
              refine aR [12] ?_
              refine AllReadyH.cons (o := _) rfl (fun K hK => ?_) AllReadyH.nil
              go_simp
              go_at_call 34
              refine (C2.out _).mono ?_
              rintro e x1 ⟨rfl, d1⟩
              have q1 := q0.trans d1
              have o1 := o0.on d1
              refine hK.out _ _ (KS.out _ q1) (fun hHeld2 => ?_)
              clear hK K
              refine pg ?_
              refine tkV 13 ?_
              refine tkV 19 ?_
              refine tkV 20 ?_
              refine aR [21] ?_
              refine AllReadyH.cons (o := _) rfl (fun K hK => ?_) AllReadyH.nil
              go_simp
              have e9 := HNF.out
              rw [nte] at e9
              simp only [Value.agg.injEq, Array.mk.injEq, List.cons.injEq, Value.int.injEq, Value.string.injEq, Value.bool.injEq, and_true, true_and] at e9
              obtain ⟨e91, e92, e93, e94⟩ := e9
              have q2 := q1.alloc (.cells #[.int .u64 (n0 : Nat), .string b1, .string b3, .bool (b2.toList == r1.toList)] 39)
              have o2 := o1.on ((Q.refl x1).alloc (.cells #[.int .u64 (n0 : Nat), .string b1, .string b3, .bool (b2.toList == r1.toList)] 39))
              have g2 : ∀ j u, (ncl ⟨zs, zn, zv, zg⟩)[j]? = some u → (x1.alloc (.cells #[.int .u64 (n0 : Nat), .string b1, .string b3, .bool (b2.toList == r1.toList)] 39)).cell? ((⟨x1.heap.size, 0, none⟩ : Addr).add j) = some u := by
                have h := cells_onente x1 ⟨zs, zn, zv, zg⟩ 39
                simp only [ncl] at h ⊢
                rw [e91, e92, e93, e94] at h ⊢
                exact h
              have hz1 := q1.size
              clear e91 e92 e93 e94
              refine hK.out _ _ (KS.out _ q2) (fun hHeld2 => ?_)
              clear hK K
              refine pg ?_
              refine aR [22] ?_
              refine AllReadyH.cons (o := _) rfl (fun K hK => ?_) AllReadyH.nil
              refine wp_snocN _ _ _ 22 Try.underlying22 rfl w1.heap.size _ _ _ ⟨zs, zn, zv, zg⟩ rfl rfl g2 o2 ?hb ?hl ?_
              case hb => exact q2.size
              case hl => omega
              intro v8 w8 o8 g8
              have q8 : Q w1 w8 := Below.grown q2 g8 q2.size (fun k hk => (World.ownsRow.lt o2 k hk).1)
              have o8 : OwnW w1.heap.size w8 v8 (rawN t (j + 1)) := by rw [HV.out]; exact o8
              refine hK.out _ _ (KS.out _ q8) (fun hHeld3 => ?_)
              clear hK K
              refine pg ?_
              refine tkV 23 ?_
              refine wpAnyH_done (by kernel_rfl) ?_ _
              go_wp2_with fail
              go_roundw
              case rel => exact ⟨j + 1, p + 4, by omega, Lib.hid (by rw [HP.out]; omega), hp4, by go_num, o8, q8⟩
              case measure => simp [intOf]; omega
            · have hd : decide (f0 = 0) = false := by simpa using hf0
              rw [hd] at C
              have HV9 := Lib.hid (HS2.out hf0)
              clear HS2 hd hf0
              go_wp2_with fail
              refine (C.out _).mono ?_
              rintro e w2 ⟨rfl, rfl⟩
              clear C c0
              go_wp2_with fail
              go_ret2
              exact RTakeN.no HV9.out (HQ1.out.trans HBEL.out)
          · obtain rfl : j = n := by omega
            have hpe : p = t.length := by rw [HP.out, HT4.out]
            subst hpe
            have rl := OwnW.read hown HRK.out
            have OW := Lib.hid (OwnW.low hown HQ1.out.size)
            obtain ⟨A3, c3, e3⟩ := hown.form
            have L := Lib.hid (rlayN_any (rawN t j) _ wr (by rw [rawN_len]; omega) rl)
            rw [HRL] at e3
            subst e3
            have hqq := HQ1.out.trans hbel
            have HE := layV_err (rawN t j)
            obtain ⟨⟨S, k⟩, hSk⟩ : ∃ x, layV (rawN t j) = x := ⟨_, rfl⟩
            rw [hSk] at L HE HNO HYE
            simp only at L HE
            have hlt2 : ¬ (t.length : Int) < (t.length : Int) := by omega
            have HQ2 := Lib.hid hqq
            clear rl hown hSk hbel hqq HRL HST
            by_cases hk : k = 0
            · subst hk
              by_cases hS : S = s
              · subst hS
                have HV := Lib.hid (HYE.out rfl)
                clear HNO HYE HE
                go_wp2_with fail
                refine (L.out).mono ?_
                rintro e w3 ⟨rfl, q3⟩
                go_wp2_with fail
                go_ret2
                exact RTakeN.yes HV.out (OW.out.on q3) (HQ2.out.trans q3)
              · have HV := Lib.hid (HNO.out (by simpa using hS))
                have hne : ¬ (S.toList = s.toList) := fun e => hS (bl_inj (by rw [← toList_bl, ← toList_bl, e]))
                have hne2 : (!(S.toList == s.toList)) = true := by simp [hne]
                clear HNO HYE HE hS
                go_wp2_with fail
                refine (L.out).mono ?_
                rintro e w3 ⟨rfl, q3⟩
                go_wp2_with fail
                go_ret2
                exact RTakeN.no HV.out (HQ2.out.trans q3)
            · have HV := Lib.hid (HNO.out (by simp [hk]))
              have hk' : ¬ (k : Int) = 0 := by omega
              clear HNO HYE HE
              go_wp2_with fail
              refine (L.out).mono ?_
              rintro e w3 ⟨rfl, q3⟩
              go_wp2_with fail
              go_ret2
              exact RTakeN.no HV.out (HQ2.out.trans q3)
      · have hm2 : ((t.length : Int) % 4 != 0) = true := by simp; omega
        have HV := Lib.hid (takeV_mod hwl h4)
        clear h4 hwl hz hwt
        go_enter Try.func15, Try.ntmps15
        go_wp2_with fail
        refine (HW.out).mono ?_
        rintro e w1 ⟨A, m, c, at_, rfl, ht, q, hat, -⟩
        obtain ⟨A', c', e1, hcells⟩ := ht
        injection e1 with e1 e2 e3
        subst e1 e2 e3
        have hat2 : at_ = s.size := by
          obtain ⟨h1, h2⟩ := (by first | exact hat rfl | exact hat trivial)
          rw [h2, size_cut _ (Nat.le_refl _)] at hr
          omega
        subst hat2
        clear hcells HW hat hr
        go_wp2_with fail
        go_ret2
        exact RTakeN.no HV.out q
    · rw [if_neg hr] at hwl
      have HV := Lib.hid (takeV_err (s := s) (by rw [hwl]; decide))
      clear hwl hsz hwt
      go_enter Try.func15, Try.ntmps15
      go_wp2_with fail
      refine (HW.out).mono ?_
      rintro e w1 ⟨A, m, c, at_, rfl, ht, q, hat, -⟩
      have hat2 : ¬ at_ = s.size := by
        obtain ⟨h1, h2⟩ := (by first | exact hat rfl | exact hat trivial)
        rw [h2, size_cut _ (Nat.le_refl _)] at hr
        omega
      have hat3 : ((at_ : Int) != (s.size : Int)) = true := by simp; omega
      have hat4 : ¬ ((at_ : Int) = (s.size : Int)) := by omega
      clear ht HW hat hr hat2
      go_wp2_with fail
      go_ret2
      exact RTakeN.no HV.out q
  · rw [if_neg hf] at hwl
    have HV := Lib.hid (takeV_err (s := s) (by rw [hwl]; exact hf))
    have hf' : ¬ (f : Int) = 0 := by omega
    clear hwl hsz hwt
    go_enter Try.func15, Try.ntmps15
    go_wp2_with fail
    refine (HW.out).mono ?_
    rintro e w1 ⟨A, m, c, at_, rfl, ht, q, hat, -⟩
    clear ht HW hat
    go_wp2_with fail
    go_ret2
    exact RTakeN.no HV.out q
end Go.Proofs.Ythlbpjopkaninaa

namespace Go.Proofs.Ythlbpjopkaninaa
set_option maxRecDepth 100000
open Go.ChangeShapes Go.WideShapes Go.ChangeAt Go.RowKit
open Go.ChangeMaps (setBlock)
set_option linter.unusedVariables false
set_option linter.unusedSimpArgs false
set_option maxRecDepth 100000
abbrev idT : Nat := 39
abbrev mapB : Nat := 51
theorem id_law : WideMaps.KeyLaw Try.prog idT := deep_law_laid (by kernel_rfl) (m := 3) (by decide) (of_decide_eq_true (by kernel_rfl)) (by kernel_rfl) (by kernel_rfl)
theorem size_tyN : ∃ m, Try.prog.types.size = m + 3 := ⟨Try.prog.types.size - 3, by
  have h : 3 ≤ Try.prog.types.size := of_decide_eq_true (by kernel_rfl)
  omega⟩
/-- A stamp and a name, as a map's key. -/
def idV (x : Nte) : Value := .agg #[.int .u64 (x.st : Nat), .string x.n, .string ⟨#[]⟩, .bool false]
theorem idV_key (x : Nte) (hx : okW x) : ∃ l, keyOf Try.prog idT (idV x) = some l := by
  have hw : (Lit.int .u64 (x.st : Nat)).wf = true := by
    have := hx.1
    simp [Lit.wf, IntKind.min, IntKind.max, IntKind.signed, IntKind.bits]; omega
  have hk := hx.2.1
  have h1 : Try.prog.keyType idT = true := by kernel_rfl
  have h2 : Try.prog.cellsOf idT = 4 := by kernel_rfl
  have h3 : Try.prog.cellsOf 9 = 1 := by kernel_rfl
  have h4 : Try.prog.cellsOf 35 = 1 := by kernel_rfl
  have h5 : Try.prog.cellsOf 4 = 1 := by kernel_rfl
  have h6 : Try.prog.cellsOf 37 = 3 := by kernel_rfl
  have h7 : (0 : Nat) ≤ maxLen := Nat.zero_le _
  obtain ⟨m, hm⟩ := size_tyN
  unfold keyOf
  simp only [Try.underlying39]
  rw [if_pos (by simp [h1, idV, Value.formed, Try.underlying39, h2]), hm]
  unfold Program.keyLits
  simp only [Try.underlying39, idV, Value.cells]
  rw [if_pos ⟨by rw [h2]; rfl, by kernel_rfl⟩]
  simp [h3, h4, h5, h6, h7, Program.keyLits, Try.underlying9, Try.underlying35, Try.underlying4, Try.underlying37, hk, hw]
  have h8 : (⟨#[]⟩ : ByteArray).size ≤ maxLen := Nat.zero_le _
  rw [if_pos (by decide)]
  simp [h8]
theorem idV_ne {x y : Nte} (h : ¬ (x.st = y.st ∧ x.n = y.n)) : idV x ≠ idV y := fun e => h (by
  unfold idV at e
  injection e with e
  injection e with e
  injection e with e1 e2
  injection e1 with e1 e3
  injection e2 with e2 e4
  injection e2 with e2
  exact ⟨by omega, e2⟩)
/-- The map's entries are these notes' names and stamps. -/
def MetN (p : Nat) (L : List Nte) (w : World) : Prop :=
  ∃ es clock, w.heap[p]? = some (.map es clock) ∧ (∀ e ∈ es.toList, ∃ x ∈ L, e.key = idV x ∧ e.val = .bool true) ∧ ∀ x ∈ L, ∃ e ∈ es.toList, e.key = idV x
theorem MetN.made (w : World) : MetN w.heap.size [] (w.alloc (.map #[] 0)) := ⟨#[], 0, heap_new w _, by simp, by simp⟩
theorem MetN.on {p : Nat} {L : List Nte} {w w' : World} (h : MetN p L w) (q : Q w w') : MetN p L w' := by
  obtain ⟨es, c, hb, r⟩ := h
  exact ⟨es, c, (q.block p (lt_of_block hb)).trans hb, r⟩
theorem MetN.look {p : Nat} {L : List Nte} {w : World} (h : MetN p L w) (hL : ∀ x ∈ L, okW x) {y : Nte} (hy : okW y) :
    ((∃ x ∈ L, x.st = y.st ∧ x.n = y.n) ∧ (Instr.lookup mapB (.map (some p)) (idV y) false).run Try.prog w = .ok (.bool true) w) ∨
    ((∀ x ∈ L, ¬ (x.st = y.st ∧ x.n = y.n)) ∧ (Instr.lookup mapB (.map (some p)) (idV y) false).run Try.prog w = .ok (.bool false) w) := by
  obtain ⟨es, clock, hb, hk, hx⟩ := h
  obtain ⟨l, hl⟩ := idV_key y hy
  have hc : ∀ em, (Instr.checkKey em 10000 idT (idV y)).run Try.prog w = .ok () w := fun em => id_law.check w em hl
  have hz : (zeroValue 4).run Try.prog w = .ok (.bool false) w := by rfl
  rcases id_law.find w hl es.toList (fun e he => by obtain ⟨x, h1, h2, -⟩ := hk e he; rw [h2]; exact idV_key x (hL x h1)) with ⟨hf, ho⟩ | ⟨j, e, hf, h2, h3⟩
  · refine .inr ⟨fun x h1 h2 => ?_, ?_⟩
    · obtain ⟨e, he, e1⟩ := hx x h1
      refine ho e he ?_
      rw [e1, idV, idV, h2.1, h2.2]
    · simp [Instr.lookup, run_underlying Try.underlying51, MapKept.run_getObj_map hb, hc, hf, hz, Result.andThen]
  · obtain ⟨x, h1, h4, h5⟩ := hk e (List.mem_of_getElem? h2)
    refine .inl ⟨⟨x, h1, ?_⟩, ?_⟩
    · by_cases h : x.st = y.st ∧ x.n = y.n
      · exact h
      · exact absurd (h4.symm.trans h3) (idV_ne h)
    · simp [Instr.lookup, run_underlying Try.underlying51, MapKept.run_getObj_map hb, hc, hf, h5, Result.andThen]
theorem MetN.put {p : Nat} {L : List Nte} {w : World} (h : MetN p L w) (hL : ∀ x ∈ L, okW x) {y : Nte} (hy : okW y) (hn : ∀ x ∈ L, ¬ (x.st = y.st ∧ x.n = y.n)) :
    ∃ w', (Instr.mapUpdate mapB (.map (some p)) (idV y) (.bool true)).run Try.prog w = .ok () w' ∧ MetN p (L ++ [y]) w' ∧ Kp p w w' ∧ ∀ (q : Addr) (v : Value), w.cell? q = some v → w'.cell? q = some v := by
  obtain ⟨es, clock, hb, hk, hx⟩ := h
  obtain ⟨l, hl⟩ := idV_key y hy
  have hc : ∀ em, (Instr.checkKey em 10000 idT (idV y)).run Try.prog w = .ok () w := fun em => id_law.check w em hl
  have hf : (Instr.findKey idT (idV y) es.toList).run Try.prog w = .ok none w := by
    rcases id_law.find w hl es.toList (fun e he => by obtain ⟨x, h1, h2, -⟩ := hk e he; rw [h2]; exact idV_key x (hL x h1)) with ⟨hf, ho⟩ | ⟨j, e, hf, h2, h3⟩
    · exact hf
    · obtain ⟨x, h1, h4, h5⟩ := hk e (List.mem_of_getElem? h2)
      exact absurd (h4.symm.trans h3) (idV_ne (hn x h1))
  refine ⟨setBlock w p (.map (es.push ⟨idV y, .bool true, clock⟩) (clock + 1)), ?_, ⟨_, _, set_map hb _, ?_, ?_⟩, map_kp _ _ _, map_cells hb _⟩
  · simp [Instr.mapUpdate, run_underlying Try.underlying51, MapKept.run_getObj_map hb, hc, hf, MapKept.run_setObj_map _ hb, Result.andThen, setBlock]
  · intro e he
    rw [Array.toList_push, List.mem_append] at he
    rcases he with he | he
    · obtain ⟨x, h1, h2⟩ := hk e he
      exact ⟨x, by simp [h1], h2⟩
    · simp at he
      subst he
      exact ⟨y, by simp, rfl, rfl⟩
  · intro x h1
    rw [Array.toList_push]
    rcases List.mem_append.1 h1 with h1 | h1
    · obtain ⟨e, he, h2⟩ := hx x h1
      exact ⟨e, by simp [he], h2⟩
    · rw [List.mem_singleton.1 h1]
      exact ⟨⟨idV y, .bool true, clock⟩, by simp, rfl⟩
/-- No two notes among the first have one name and one stamp. -/
def apartN (l : List Nte) : Prop := l.Pairwise fun x y => ¬ (x.st = y.st ∧ x.n = y.n)
theorem apartN_one {l : List Nte} (h : apartN l) : oneN l := by
  intro x hx y hy h1 h2
  induction l with
  | nil => cases hx
  | cons z r ih =>
    obtain ⟨g1, g2⟩ := List.pairwise_cons.1 h
    rcases List.mem_cons.1 hx with hx | hx
    · rcases List.mem_cons.1 hy with hy | hy
      · rw [hx, hy]
      · rw [hx] at h1 h2; exact absurd ⟨h2, h1⟩ (g1 y hy)
    · rcases List.mem_cons.1 hy with hy | hy
      · rw [hy] at h1 h2; exact absurd ⟨h2.symm, h1.symm⟩ (g1 x hx)
      · exact ih g2 hx hy
theorem apartN_step {l : List Nte} {i : Nat} (h : i < l.length) (k : apartN (l.take i)) (g : ∀ x ∈ l.take i, ¬ (x.st = l[i].st ∧ x.n = l[i].n)) : apartN (l.take (i + 1)) := by
  unfold apartN at k ⊢
  rw [List.take_succ_eq_append_getElem h, List.pairwise_append]
  refine ⟨k, by simp, fun x hx y hy => ?_⟩
  rw [List.mem_singleton.1 hy]
  exact g x hx
end Go.Proofs.Ythlbpjopkaninaa

