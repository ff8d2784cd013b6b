/-
  Proved: whatever notes and change ChangeLast is called with, it returns true and leaves what it was given as it was. No condition.
-/
import Derived.Test.YthlbpjopkaninaaNh
namespace Go.Proofs.Ythlbpjopkaninaa.changeLast
set_option maxRecDepth 100000
open Go.ChangeShapes Go.WideShapes Go.ChangeAt Go.RowKit
open Go.ChangeMaps (open_string shut_string)
set_option linter.unusedVariables false
set_option linter.unusedSimpArgs false

theorem wp_append_nte {o : Oper} {a : Act} {K : Act → World → Prop} {Q : Exit → Act → World → Prop} (w : World) (s x : Operand) (t : TypeId)
    (htt : Try.prog.underlying t = some (.slice 39)) (ho : o.op = .call { callee := .builtin .append, args := #[s, x], argTypes := #[t, t] })
    (base B : Nat) (v : Value) (l m : List Nte) {A : Option Addr} {n c : Nat} (hs : a.eval s = v) (hx : a.eval x = .slice A n c) (h : OwnW base w v l)
    (g : Ntes w B (.slice A n c) m) (hb : base ≤ w.heap.size) (hl : l.length + m.length ≤ 4000000)
    (k : ∀ v' w', OwnW base w' v' (l ++ m) → w.grownBy w' v.ownBlock → K (a.put o.dst v') w') : Oper.wp Try.prog o a w K Q := by
  obtain ⟨v', w', h1, h2, h3⟩ := run_append_nte w base B t o.type htt v l m h g hb hl
  unfold Oper.wp execOp
  simp only [ho, resolve, invoke, builtin, Sem.run_bind, Sem.run_pure, Result.andThen_ok, List.map_toArray, List.map_cons, List.map_nil, hs, hx, h1]
  exact k v' w' h2 h3
theorem bx_gg {w : World} {k : Nat} {t : TypeId} {y : Nte} (b : Bx w k t (ncl y).toArray) : ∀ j u, (ncl y)[j]? = some u → w.cell? ((⟨k, 0, none⟩ : Addr).add j) = some u := by
  intro j u h
  have e := b.cell j
  have h2 : ((⟨k, 0, none⟩ : Addr).add j) = ⟨k, j, none⟩ := by unfold Addr.add; split <;> simp_all
  rw [h2, e]
  simpa using h
set_option maxHeartbeats 8000000 in
set_option maxRecDepth 100000 in
theorem walk (l : List Nte) (v : Value) (x : Chg) (w : World) (t0 : Ntes w w.heap.size v l) (z0 : l.length ≤ maxLen) (t1 : okH x) :
    Calls Try.prog 9 #[v, chg x] w fun e w' => e = .returned (.bool true) ∧ Q w w' := by
  show Calls Try.prog 9 #[v, .agg #[.string x.n, .string x.val, .bool x.gone]] w fun e w' => e = .returned (.bool true) ∧ Q w w'
  have F1 := Lib.hid (fun (y : World) (q : Q w y) => fewNs_any l v y z0 (t0.on q))
  have okA : ∀ x ∈ fewNs l, okW x := fewNs_okW t0.okAll
  have lA := fewNs_len l
  obtain ⟨A, hA⟩ : ∃ A, A = fewNs l := ⟨_, rfl⟩
  rw [← hA] at F1 okA lA
  have hlast : lastN A < 18446744073709551616 := by
    rcases lastN_in A with h | ⟨y, hy, e⟩
    · rw [h]; show (0 : Nat) < _; omega
    · rw [← e]; exact (okA y hy).1
  have HLE : Hid (∀ i (h : i < A.length), A[i].st ≤ lastN A) := Lib.hid fun i h => lastN_le _ (List.getElem_mem h)
  have HCN := Lib.hid (lastN_cnt A)
  have HLL : Hid (∀ s, lastN A < s → ∀ z ∈ liveN (A ++ [⟨s, x.n, x.val, x.gone⟩]) A, z.n ≠ x.n) := Lib.hid fun s hs z hz => live_later (n := ⟨s, x.n, x.val, x.gone⟩) (fun y hy => Nat.lt_of_le_of_lt (lastN_le y hy) hs) hz
  clear hA t0 z0
  have OA := Lib.hid okA
  have OC := Lib.hid (cntN_okW okA)
  have lX := Nat.le_trans (cntN_len A) lA
  have K1 := Lib.hid (fun (y : World) (u : Value) (h : Ntes y y.heap.size u A) => lastN_any A u y (by omega) h)
  have K2 := Lib.hid (fun (y : World) (u : Value) (h : Ntes y y.heap.size u A) => countN_any A u y (by omega) h)
  obtain ⟨m, hm⟩ : ∃ m, m = lastN A := ⟨_, rfl⟩
  obtain ⟨X, hX⟩ : ∃ X, X = cntN A := ⟨_, rfl⟩
  rw [← hm] at K1 hlast HLE HCN HLL
  rw [← hX] at K2 OC lX HCN
  clear hm hX
  have qb := (Q.refl w).alloc (.cells #[.string x.n, .string x.val, .bool x.gone] 37)
  have b0 := Bx.new w 37 #[.string x.n, .string x.val, .bool x.gone]
  obtain ⟨W0, hW0⟩ : ∃ W0, W0 = w.alloc (.cells #[.string x.n, .string x.val, .bool x.gone] 37) := ⟨_, rfl⟩
  go_enter Try.func9, Try.ntmps9
  go_wp2_with fail
  rw [← hW0] at qb b0 ⊢
  clear hW0
  refine (F1.out _ qb).mono ?_
  rintro e w1 ⟨v1, rfl, o1, q1⟩
  have ra := Lib.hid (OwnW.read o1 OA.out)
  have p1 := qb.trans q1
  have b1 := b0.on q1
  clear o1 qb b0
  go_wp2_with fail
  refine (K1.out _ _ ra.out).mono ?_
  rintro e w2 ⟨rfl, q2⟩
  have ra := Lib.hid (ra.out.on q2)
  have p2 := p1.trans q2
  go_wp2_with fail
  refine (K2.out _ _ ra.out).mono ?_
  rintro e w3 ⟨v3, rfl, o3, q3⟩
  have ra := Lib.hid (ra.out.on q3)
  have rx := Lib.hid (OwnW.read o3 OC.out)
  have p3 := p2.trans q3
  have b3 := (b1.on q2).on q3
  clear b1 F1 K1 K2
  obtain ⟨A1, c1, e1, -, -, -, h1⟩ := id ra.out
  subst e1
  obtain ⟨A3, c3, e3, -, -, -, h3⟩ := id rx.out
  subst e3
  have H1 := Lib.hid h1
  have H3 := Lib.hid h3
  have HP := Lib.hid p3
  have HB := Lib.hid b3
  clear h1 h3 b3 o3
  go_wp2_with fail
  go_loopw [8] (fun I wr => ∃ i : Nat, i ≤ A.length ∧ I = .int .i64 i ∧ Q w3 wr) (fun I _ => A.length - (intOf I).toNat)
  case atStart => exact ⟨0, Nat.zero_le _, rfl, Q.refl _⟩
  case round =>
    obtain ⟨i, hil, rfl, q⟩ := hrel
    by_cases hlt : i < A.length
    · obtain ⟨a, hae, ha, hat⟩ := H1.out i hlt
      subst hae
      obtain ⟨s0, s1, s2, s3⟩ := hat.keep (by rw [add_block]; exact ha) fun _ hp => q.cell hp
      have hle := HLE.out i hlt
      obtain ⟨y, hy⟩ : ∃ y, y = A[i] := ⟨_, rfl⟩
      rw [← hy] at s0 hle
      clear hy hat s1 s2 s3
      have hilt : (i : Int) < (A.length : Int) := by omega
      have hnl : ¬ (m : Int) < (y.st : Int) := by omega
      go_wp2_with fail
      go_roundw
      case rel => exact ⟨i + 1, by omega, by go_num, q⟩
      case measure => simp [intOf]; omega
    · have hi2 : ¬ (i : Int) < (A.length : Int) := by omega
      have qA := q
      go_wp2_with fail
      go_loopw [7, 9] (fun G J w5 => ∃ j : Nat, ∃ b : Bool, j ≤ X.length ∧ J = .int .i64 j ∧ G = .bool b ∧ Hid (b = (decide (A = []) || (X.take j).any fun z => decide (z.st = m))) ∧ Q w3 w5) (fun _ J _ => X.length - (intOf J).toNat)
      case atStart => exact ⟨0, _, Nat.zero_le _, rfl, rfl, Lib.hid (by cases A with | nil => rfl | cons y t => simp; omega), qA⟩
      case round =>
        obtain ⟨j, b, hjl, rfl, rfl, HG, qx⟩ := hrel
        clear q hil hi2 hlt
        by_cases hjt : j < X.length
        · obtain ⟨a, hae, ha, hat⟩ := H3.out j hjt
          subst hae
          obtain ⟨s0, s1, s2, s3⟩ := hat.keep (by rw [add_block]; exact ha) fun _ hp => qx.cell hp
          have HN : Hid ((decide (A = []) || (X.take (j + 1)).any fun z => decide (z.st = m)) = (b || decide (X[j].st = m))) := Lib.hid (by
            rw [HG.out, List.take_add_one, List.getElem?_eq_getElem hjt, List.any_append]
            simp [Bool.or_assoc])
          obtain ⟨y, hy⟩ : ∃ y, y = X[j] := ⟨_, rfl⟩
          rw [← hy] at s0 HN
          clear hy hat s1 s2 s3 HG
          have hjlt : (j : Int) < (X.length : Int) := by omega
          cases b with
          | true =>
            go_wp2_with fail
            go_roundw
            case rel => exact ⟨j + 1, true, by omega, by go_num, rfl, Lib.hid (by rw [HN.out]; rfl), qx⟩
            case measure => simp [intOf]; omega
          | false =>
            go_wp2_with fail
            go_roundw
            case rel => exact ⟨j + 1, _, by omega, by go_num, rfl, Lib.hid (by rw [HN.out, Bool.eq_iff_iff]; simp <;> omega), qx⟩
            case measure => simp [intOf]; omega
        · have hj2 : ¬ (j : Int) < (X.length : Int) := by omega
          have hb : b = true := by
            rw [HG.out, List.take_of_length_le (by omega)]
            rcases HCN.out with h | ⟨z, hz, e⟩
            · rw [h]; simp
            · rw [List.any_eq_true.2 ⟨z, hz, by simp [e]⟩, Bool.or_true]
          subst hb
          clear HG HCN H3 rx
          by_cases hmx : m = 18446744073709551615
          · have e1 : ((m : Int) == 18446744073709551615) = true := by simp; omega
            clear hmx
            go_wp2_with fail
            refine (awakeY_any _).mono ?_
            rintro e wz ⟨rfl, qz⟩
            go_wp2_with fail
            go_ret
            exact ⟨rfl, (HP.out.trans qx).trans qz⟩
          · have e1 : ((m : Int) == 18446744073709551615) = false := by simp; omega
            have hw1 : IntKind.u64.wrap ((m : Int) + 1) = ((m + 1 : Nat) : Int) := by rw [IntKind.wrap_u64]; omega
            have hms : m < m + 1 := by omega
            have hsb : m + 1 < 18446744073709551616 := by omega
            have HNL := Lib.hid (HLL.out (m + 1) hms)
            obtain ⟨s, hs⟩ : ∃ s : Nat, s = m + 1 := ⟨_, rfl⟩
            rw [← hs] at hw1 HNL hsb
            clear hs hms hmx HLL HLE
            have bB := HB.out.on qx
            obtain ⟨s0, s1, s2⟩ : wr.cell? ⟨w.heap.size, 0, none⟩ = some (.string x.n) ∧ wr.cell? ⟨w.heap.size, 1, none⟩ = some (.string x.val) ∧ wr.cell? ⟨w.heap.size, 2, none⟩ = some (.bool x.gone) := ⟨bB.cell 0, bB.cell 1, bB.cell 2⟩
            have bB : Hid (Bx wr w.heap.size 37 #[.string x.n, .string x.val, .bool x.gone]) := Lib.hid bB
            have qx : Hid (Q w3 wr) := Lib.hid qx
            have ra5 := Lib.hid (ra.out.on qx.out)
            clear ra H1
            go_wp2_with fail
            have qW := qx.out.alloc (.cells (ncl ⟨s, x.n, x.val, x.gone⟩).toArray 39)
            have bN := Bx.new wr 39 (ncl ⟨s, x.n, x.val, x.gone⟩).toArray
            have rA := ra5.out.on ((Q.refl wr).alloc (.cells (ncl ⟨s, x.n, x.val, x.gone⟩).toArray 39))
            have bC := bB.out.on ((Q.refl wr).alloc (.cells (ncl ⟨s, x.n, x.val, x.gone⟩).toArray 39))
            obtain ⟨W1, hW1⟩ : ∃ W1, W1 = wr.alloc (.cells (ncl ⟨s, x.n, x.val, x.gone⟩).toArray 39) := ⟨_, rfl⟩
            rw [← hW1] at qW bN rA bC
            have hW2 : wr.alloc (.cells #[.int .u64 s, .string x.n, .string x.val, .bool x.gone] 39) = W1 := hW1.symm
            rw [hW2]
            obtain ⟨g, hg⟩ : ∃ g, g = wr.heap.size := ⟨_, rfl⟩
            rw [← hg] at bN ⊢
            have HS : Hid (∀ y, Q W1 y → (fun W => W.cell? ⟨g, 0, none⟩ = some (.int .u64 s) ∧ W.cell? ⟨g, 1, none⟩ = some (.string x.n) ∧ W.cell? ⟨g, 2, none⟩ = some (.string x.val) ∧ W.cell? ⟨g, 3, none⟩ = some (.bool x.gone)) y) := Lib.hid fun y q => ⟨(bN.on q).cell 0, (bN.on q).cell 1, (bN.on q).cell 2, (bN.on q).cell 3⟩
            have KA := Lib.hid rA
            have KC := Lib.hid bC
            have KW := Lib.hid qW
            have OKN : Hid (∀ z ∈ [] ++ A ++ [⟨s, x.n, x.val, x.gone⟩], okW z) := Lib.hid fun z hz => by
              rcases List.mem_append.1 hz with h | h
              · exact okA z (by simpa using h)
              · rw [List.mem_singleton.1 h]
                exact ⟨hsb, t1.1, t1.2.1, trivial⟩
            have KL := Lib.hid (fun (y : World) (u v : Value) (h : Ntes y y.heap.size u ([] ++ A ++ [⟨s, x.n, x.val, x.gone⟩])) (k : Ntes y y.heap.size v A) => liveN_any ([] ++ A ++ [⟨s, x.n, x.val, x.gone⟩]) A u v y (by first | omega | (simp; omega)) (by first | omega | (simp; omega)) h k)
            have HNL2 : Hid (∀ z ∈ liveN ([] ++ A ++ [⟨s, x.n, x.val, x.gone⟩]) A, z.n ≠ x.n) := Lib.hid (by rw [List.nil_append]; exact HNL.out)
            have OL := Lib.hid (liveN_okW (all := [] ++ A ++ [⟨s, x.n, x.val, x.gone⟩]) okA)
            have lL := Nat.le_trans (liveN_le ([] ++ A ++ [⟨s, x.n, x.val, x.gone⟩]) A) lA
            obtain ⟨L, hL⟩ : ∃ L, L = liveN ([] ++ A ++ [⟨s, x.n, x.val, x.gone⟩]) A := ⟨_, rfl⟩
            rw [← hL] at KL HNL2 OL lL
            have lA2 : ([] : List Nte).length + A.length ≤ 4000000 := by simp; omega
            have lA3 : ([] ++ A).length ≤ 4000000 := by simp; omega
            obtain ⟨z0, z1, z2, z3⟩ := HS.out W1 (Q.refl W1)
            clear hL HNL hW1 hW2 hg qW bN rA bC s0 s1 s2 bB qx ra5 okA
            refine wp_region_held_drew (S := (fun W => W.cell? ⟨g, 0, none⟩ = some (.int .u64 s) ∧ W.cell? ⟨g, 1, none⟩ = some (.string x.n) ∧ W.cell? ⟨g, 2, none⟩ = some (.string x.val) ∧ W.cell? ⟨g, 3, none⟩ = some (.bool x.gone))) (by kernel_rfl) ⟨z0, z1, z2, z3⟩ (fun hHeld => ?_)
            refine tkV 1 ?_
            refine tkV 3 ?_
            refine tkV 6 ?_
            refine aR [0, 4] ?_
            refine AllReadyH.cons (o := _) rfl (fun K hK => ?_) (AllReadyH.cons (o := _) rfl (fun K hK => ?_) AllReadyH.nil)
            · go_simp
              have qc : Q W1 (W1.drew.alloc (.cells #[] 39)) := (Q.refl W1).drew.alloc (.cells #[] 39)
              have own : OwnW W1.heap.size (W1.drew.alloc (.cells #[] 39)) (.slice (some ⟨W1.heap.size, 0, none⟩) 0 0) [] := noneN_made W1.drew
              refine hK.out _ _ (HS.out _ qc) (fun hHeld2 => ?_)
              clear hK K
              refine pg ?_
              refine aR [2, 4] ?_
              refine AllReadyH.cons (o := _) rfl (fun K hK => ?_) (AllReadyH.cons (o := _) rfl (fun K hK => ?_) AllReadyH.nil)
              · skip
                rw [if_pos (by rfl)]
                refine wp_append_nte _ _ _ 22 Try.underlying22 rfl W1.heap.size _ (.slice (some ⟨W1.heap.size, 0, none⟩) 0 0) [] A rfl rfl own (KA.out.on qc) ?hb ?hl ?_
                case hb => exact qc.size
                case hl => exact lA2
                intro v2 w2x o2 g2
                have q2x : Q W1 w2x := Below.grown qc g2 qc.size (fun k hk => (World.ownsRow.lt own k hk).1)
                refine hK.out _ _ (HS.out _ q2x) (fun hHeld3 => ?_)
                clear hK K
                refine pg ?_
                refine aR [4] ?_
                refine AllReadyH.cons (o := _) rfl (fun K hK => ?_) AllReadyH.nil
                go_simp
                have qd := q2x.alloc (.cells (ncl ⟨s, x.n, x.val, x.gone⟩).toArray 39)
                have bx := Bx.new w2x 39 (ncl ⟨s, x.n, x.val, x.gone⟩).toArray
                have own2 := OwnW.on o2 ((Q.refl w2x).alloc (.cells (ncl ⟨s, x.n, x.val, x.gone⟩).toArray 39))
                refine hK.out _ _ (HS.out _ qd) (fun hHeld4 => ?_)
                clear hK K
                refine pg ?_
                clear o2 g2 q2x own qc
                refine aR [5] ?_
                refine AllReadyH.cons (o := _) rfl (fun K hK => ?_) AllReadyH.nil
                rw [if_pos (by rfl)]
                refine wp_snoc_nte _ _ _ 22 Try.underlying22 rfl W1.heap.size _ _ _ ⟨s, x.n, x.val, x.gone⟩ rfl rfl (bx_gg bx) own2 ?hb ?hl ?_
                case hb => exact qd.size
                case hl => exact lA3
                intro v5 w5x o5 g5
                have q5x : Q W1 w5x := Below.grown qd g5 qd.size (fun k hk => (World.ownsRow.lt own2 k hk).1)
                have rN := OwnW.read o5 OKN.out
                have rA5 := KA.out.on q5x
                refine hK.out _ _ (HS.out _ q5x) (fun hHeld5 => ?_)
                clear hK K
                refine pg ?_
                refine aR [7] ?_
                refine AllReadyH.cons (o := _) rfl (fun K hK => ?_) AllReadyH.nil
                go_simp
                go_at_call 26
                refine (KL.out _ _ _ rN rA5).mono ?_
                rintro e w7 ⟨v7, rfl, o7, q7⟩
                have q7x := q5x.trans q7
                refine hK.out _ _ (HS.out _ q7x) (fun hHeld7 => ?_)
                clear hK K
                refine pg ?_
                refine tkV 8 ?_
                refine wpAnyH_done (by kernel_rfl) ?_ _
                obtain ⟨A7, c7, e7, -, -, -, h7⟩ := OwnW.read o7 OL.out
                subst e7
                have H7 := Lib.hid h7
                have bC7 := Lib.hid (KC.out.on q7x)
                have P7 := Lib.hid (HP.out.trans (KW.out.trans q7x))
                clear h7 o7 q7x q7 rN rA5 q5x o5 g5 bx own2 qd KA KL HS OL
                go_wp2_with fail
                go_loopw [12] (fun I wz => ∃ k : Nat, k ≤ L.length ∧ I = .int .i64 k ∧ Q w7 wz) (fun I _ => L.length - (intOf I).toNat)
                case atStart => exact ⟨0, Nat.zero_le _, rfl, Q.refl _⟩
                case round =>
                  obtain ⟨k, hkl, rfl, q⟩ := hrel
                  by_cases hkt : k < L.length
                  · obtain ⟨a, hae, ha, hat⟩ := H7.out k hkt
                    subst hae
                    obtain ⟨s0, s1, s2, s3⟩ := hat.keep (by rw [add_block]; exact ha) fun _ hp => q.cell hp
                    have hne := HNL2.out _ (List.getElem_mem hkt)
                    obtain ⟨y, hy⟩ : ∃ y, y = L[k] := ⟨_, rfl⟩
                    rw [← hy] at s1 hne
                    have c0 := (bC7.out.on q).cell 0
                    have c0 : wr.cell? ⟨w.heap.size, 0, none⟩ = some (.string x.n) := c0
                    have hklt : (k : Int) < (L.length : Int) := by omega
                    have hne2 : ¬ y.n.toList = x.n.toList := fun e => hne (bl_inj (by rw [← toList_bl, ← toList_bl, e]))
                    clear hy hat s0 s2 s3
                    go_wp2_with fail
                    refine wp_region_held_drew (S := (fun W => W.cell? ⟨(a.add (k * 4)).block, (a.add (k * 4)).off + 1, none⟩ = some (.string y.n) ∧ W.cell? ⟨w.heap.size, 0, none⟩ = some (.string x.n))) (by kernel_rfl) ⟨s1, c0⟩ (fun hHeld => ?_)
                    refine tkV 0 ?_
                    refine tkV 1 ?_
                    refine tkV 2 ?_
                    refine tkV 3 ?_
                    refine tkV 4 ?_
                    refine tkV 5 ?_
                    refine tkV 6 ?_
                    refine tkV 7 ?_
                    refine tkB 8 (.bool false) ?_
                    refine wpAnyH_done (by kernel_rfl) ?_ _
                    go_wp2_with fail
                    go_roundw
                    case rel => exact ⟨k + 1, by omega, by go_num, q.drew⟩
                    case measure => simp [intOf]; omega
                  · have h2 : ¬ (k : Int) < (L.length : Int) := by omega
                    go_wp2_with fail
                    refine (awakeY_any _).mono ?_
                    rintro e wz ⟨rfl, qz⟩
                    go_wp2_with fail
                    go_ret
                    exact ⟨rfl, (P7.out.trans q).trans qz⟩
              · go_simp
                have qe := qc.alloc (.cells (ncl ⟨s, x.n, x.val, x.gone⟩).toArray 39)
                have bx0 : Bx ((W1.drew.alloc (.cells #[] 39)).alloc (.cells (ncl ⟨s, x.n, x.val, x.gone⟩).toArray 39)) (W1.heap.size + 1) 39 (ncl ⟨s, x.n, x.val, x.gone⟩).toArray := by
                  have h := Bx.new (W1.drew.alloc (.cells #[] 39)) 39 (ncl ⟨s, x.n, x.val, x.gone⟩).toArray
                  rw [World.size_alloc] at h
                  exact h
                have own1 := OwnW.on own ((Q.refl (W1.drew.alloc (.cells #[] 39))).alloc (.cells (ncl ⟨s, x.n, x.val, x.gone⟩).toArray 39))
                refine hK.out _ _ (HS.out _ qe) (fun hHeld3 => ?_)
                clear hK K
                refine pg ?_
                clear own qc
                have own := own1
                have qc := qe
                clear own1 qe
                refine aR [2] ?_
                refine AllReadyH.cons (o := _) rfl (fun K hK => ?_) AllReadyH.nil
                rw [if_pos (by rfl)]
                refine wp_append_nte _ _ _ 22 Try.underlying22 rfl W1.heap.size _ (.slice (some ⟨W1.heap.size, 0, none⟩) 0 0) [] A rfl rfl own (KA.out.on qc) ?hb ?hl ?_
                case hb => exact qc.size
                case hl => exact lA2
                intro v2 w2x o2 g2
                have q2x : Q W1 w2x := Below.grown qc g2 qc.size (fun k hk => (World.ownsRow.lt own k hk).1)
                have bx : Bx w2x _ _ _ := bx0.same (g2.block _ bx0.lt (by simp [Value.ownBlock]))
                have own2 := o2
                have qd := q2x
                refine hK.out _ _ (HS.out _ qd) (fun hHeld4 => ?_)
                clear hK K
                refine pg ?_
                clear o2 g2 q2x own qc bx0
                refine aR [5] ?_
                refine AllReadyH.cons (o := _) rfl (fun K hK => ?_) AllReadyH.nil
                rw [if_pos (by rfl)]
                refine wp_snoc_nte _ _ _ 22 Try.underlying22 rfl W1.heap.size _ _ _ ⟨s, x.n, x.val, x.gone⟩ rfl rfl (bx_gg bx) own2 ?hb ?hl ?_
                case hb => exact qd.size
                case hl => exact lA3
                intro v5 w5x o5 g5
                have q5x : Q W1 w5x := Below.grown qd g5 qd.size (fun k hk => (World.ownsRow.lt own2 k hk).1)
                have rN := OwnW.read o5 OKN.out
                have rA5 := KA.out.on q5x
                refine hK.out _ _ (HS.out _ q5x) (fun hHeld5 => ?_)
                clear hK K
                refine pg ?_
                refine aR [7] ?_
                refine AllReadyH.cons (o := _) rfl (fun K hK => ?_) AllReadyH.nil
                go_simp
                go_at_call 26
                refine (KL.out _ _ _ rN rA5).mono ?_
                rintro e w7 ⟨v7, rfl, o7, q7⟩
                have q7x := q5x.trans q7
                refine hK.out _ _ (HS.out _ q7x) (fun hHeld7 => ?_)
                clear hK K
                refine pg ?_
                refine tkV 8 ?_
                refine wpAnyH_done (by kernel_rfl) ?_ _
                obtain ⟨A7, c7, e7, -, -, -, h7⟩ := OwnW.read o7 OL.out
                subst e7
                have H7 := Lib.hid h7
                have bC7 := Lib.hid (KC.out.on q7x)
                have P7 := Lib.hid (HP.out.trans (KW.out.trans q7x))
                clear h7 o7 q7x q7 rN rA5 q5x o5 g5 bx own2 qd KA KL HS OL
                go_wp2_with fail
                go_loopw [12] (fun I wz => ∃ k : Nat, k ≤ L.length ∧ I = .int .i64 k ∧ Q w7 wz) (fun I _ => L.length - (intOf I).toNat)
                case atStart => exact ⟨0, Nat.zero_le _, rfl, Q.refl _⟩
                case round =>
                  obtain ⟨k, hkl, rfl, q⟩ := hrel
                  by_cases hkt : k < L.length
                  · obtain ⟨a, hae, ha, hat⟩ := H7.out k hkt
                    subst hae
                    obtain ⟨s0, s1, s2, s3⟩ := hat.keep (by rw [add_block]; exact ha) fun _ hp => q.cell hp
                    have hne := HNL2.out _ (List.getElem_mem hkt)
                    obtain ⟨y, hy⟩ : ∃ y, y = L[k] := ⟨_, rfl⟩
                    rw [← hy] at s1 hne
                    have c0 := (bC7.out.on q).cell 0
                    have c0 : wr.cell? ⟨w.heap.size, 0, none⟩ = some (.string x.n) := c0
                    have hklt : (k : Int) < (L.length : Int) := by omega
                    have hne2 : ¬ y.n.toList = x.n.toList := fun e => hne (bl_inj (by rw [← toList_bl, ← toList_bl, e]))
                    clear hy hat s0 s2 s3
                    go_wp2_with fail
                    refine wp_region_held_drew (S := (fun W => W.cell? ⟨(a.add (k * 4)).block, (a.add (k * 4)).off + 1, none⟩ = some (.string y.n) ∧ W.cell? ⟨w.heap.size, 0, none⟩ = some (.string x.n))) (by kernel_rfl) ⟨s1, c0⟩ (fun hHeld => ?_)
                    refine tkV 0 ?_
                    refine tkV 1 ?_
                    refine tkV 2 ?_
                    refine tkV 3 ?_
                    refine tkV 4 ?_
                    refine tkV 5 ?_
                    refine tkV 6 ?_
                    refine tkV 7 ?_
                    refine tkB 8 (.bool false) ?_
                    refine wpAnyH_done (by kernel_rfl) ?_ _
                    go_wp2_with fail
                    go_roundw
                    case rel => exact ⟨k + 1, by omega, by go_num, q.drew⟩
                    case measure => simp [intOf]; omega
                  · have h2 : ¬ (k : Int) < (L.length : Int) := by omega
                    go_wp2_with fail
                    refine (awakeY_any _).mono ?_
                    rintro e wz ⟨rfl, qz⟩
                    go_wp2_with fail
                    go_ret
                    exact ⟨rfl, (P7.out.trans q).trans qz⟩
            · go_simp
              have qe := (Q.refl W1).drew.alloc (.cells (ncl ⟨s, x.n, x.val, x.gone⟩).toArray 39)
              have bx1 : Bx (W1.drew.alloc (.cells (ncl ⟨s, x.n, x.val, x.gone⟩).toArray 39)) W1.heap.size 39 (ncl ⟨s, x.n, x.val, x.gone⟩).toArray := Bx.new W1.drew 39 (ncl ⟨s, x.n, x.val, x.gone⟩).toArray
              refine hK.out _ _ (HS.out _ qe) (fun hHeld2 => ?_)
              clear hK K
              refine pg ?_
              refine aR [0] ?_
              refine AllReadyH.cons (o := _) rfl (fun K hK => ?_) AllReadyH.nil
              go_simp
              have qc := qe.alloc (.cells #[] 39)
              have own : OwnW W1.heap.size ((W1.drew.alloc (.cells (ncl ⟨s, x.n, x.val, x.gone⟩).toArray 39)).alloc (.cells #[] 39)) (.slice (some ⟨W1.heap.size + 1, 0, none⟩) 0 0) [] := by
                have h := noneN_made (W1.drew.alloc (.cells (ncl ⟨s, x.n, x.val, x.gone⟩).toArray 39))
                rw [World.size_alloc] at h
                exact OwnW.low h (Nat.le_succ _)
              have bx0 := bx1.alloc (.cells #[] 39)
              refine hK.out _ _ (HS.out _ qc) (fun hHeld3 => ?_)
              clear hK K
              refine pg ?_
              clear qe bx1
              refine aR [2] ?_
              refine AllReadyH.cons (o := _) rfl (fun K hK => ?_) AllReadyH.nil
              rw [if_pos (by rfl)]
              refine wp_append_nte _ _ _ 22 Try.underlying22 rfl W1.heap.size _ (.slice (some ⟨W1.heap.size + 1, 0, none⟩) 0 0) [] A rfl rfl own (KA.out.on qc) ?hb ?hl ?_
              case hb => exact qc.size
              case hl => exact lA2
              intro v2 w2x o2 g2
              have q2x : Q W1 w2x := Below.grown qc g2 qc.size (fun k hk => (World.ownsRow.lt own k hk).1)
              have bx : Bx w2x _ _ _ := bx0.same (g2.block _ bx0.lt (by simp [Value.ownBlock]))
              have own2 := o2
              have qd := q2x
              refine hK.out _ _ (HS.out _ qd) (fun hHeld4 => ?_)
              clear hK K
              refine pg ?_
              clear o2 g2 q2x own qc bx0
              refine aR [5] ?_
              refine AllReadyH.cons (o := _) rfl (fun K hK => ?_) AllReadyH.nil
              rw [if_pos (by rfl)]
              refine wp_snoc_nte _ _ _ 22 Try.underlying22 rfl W1.heap.size _ _ _ ⟨s, x.n, x.val, x.gone⟩ rfl rfl (bx_gg bx) own2 ?hb ?hl ?_
              case hb => exact qd.size
              case hl => exact lA3
              intro v5 w5x o5 g5
              have q5x : Q W1 w5x := Below.grown qd g5 qd.size (fun k hk => (World.ownsRow.lt own2 k hk).1)
              have rN := OwnW.read o5 OKN.out
              have rA5 := KA.out.on q5x
              refine hK.out _ _ (HS.out _ q5x) (fun hHeld5 => ?_)
              clear hK K
              refine pg ?_
              refine aR [7] ?_
              refine AllReadyH.cons (o := _) rfl (fun K hK => ?_) AllReadyH.nil
              go_simp
              go_at_call 26
              refine (KL.out _ _ _ rN rA5).mono ?_
              rintro e w7 ⟨v7, rfl, o7, q7⟩
              have q7x := q5x.trans q7
              refine hK.out _ _ (HS.out _ q7x) (fun hHeld7 => ?_)
              clear hK K
              refine pg ?_
              refine tkV 8 ?_
              refine wpAnyH_done (by kernel_rfl) ?_ _
              obtain ⟨A7, c7, e7, -, -, -, h7⟩ := OwnW.read o7 OL.out
              subst e7
              have H7 := Lib.hid h7
              have bC7 := Lib.hid (KC.out.on q7x)
              have P7 := Lib.hid (HP.out.trans (KW.out.trans q7x))
              clear h7 o7 q7x q7 rN rA5 q5x o5 g5 bx own2 qd KA KL HS OL
              go_wp2_with fail
              go_loopw [12] (fun I wz => ∃ k : Nat, k ≤ L.length ∧ I = .int .i64 k ∧ Q w7 wz) (fun I _ => L.length - (intOf I).toNat)
              case atStart => exact ⟨0, Nat.zero_le _, rfl, Q.refl _⟩
              case round =>
                obtain ⟨k, hkl, rfl, q⟩ := hrel
                by_cases hkt : k < L.length
                · obtain ⟨a, hae, ha, hat⟩ := H7.out k hkt
                  subst hae
                  obtain ⟨s0, s1, s2, s3⟩ := hat.keep (by rw [add_block]; exact ha) fun _ hp => q.cell hp
                  have hne := HNL2.out _ (List.getElem_mem hkt)
                  obtain ⟨y, hy⟩ : ∃ y, y = L[k] := ⟨_, rfl⟩
                  rw [← hy] at s1 hne
                  have c0 := (bC7.out.on q).cell 0
                  have c0 : wr.cell? ⟨w.heap.size, 0, none⟩ = some (.string x.n) := c0
                  have hklt : (k : Int) < (L.length : Int) := by omega
                  have hne2 : ¬ y.n.toList = x.n.toList := fun e => hne (bl_inj (by rw [← toList_bl, ← toList_bl, e]))
                  clear hy hat s0 s2 s3
                  go_wp2_with fail
                  refine wp_region_held_drew (S := (fun W => W.cell? ⟨(a.add (k * 4)).block, (a.add (k * 4)).off + 1, none⟩ = some (.string y.n) ∧ W.cell? ⟨w.heap.size, 0, none⟩ = some (.string x.n))) (by kernel_rfl) ⟨s1, c0⟩ (fun hHeld => ?_)
                  refine tkV 0 ?_
                  refine tkV 1 ?_
                  refine tkV 2 ?_
                  refine tkV 3 ?_
                  refine tkV 4 ?_
                  refine tkV 5 ?_
                  refine tkV 6 ?_
                  refine tkV 7 ?_
                  refine tkB 8 (.bool false) ?_
                  refine wpAnyH_done (by kernel_rfl) ?_ _
                  go_wp2_with fail
                  go_roundw
                  case rel => exact ⟨k + 1, by omega, by go_num, q.drew⟩
                  case measure => simp [intOf]; omega
                · have h2 : ¬ (k : Int) < (L.length : Int) := by omega
                  go_wp2_with fail
                  refine (awakeY_any _).mono ?_
                  rintro e wz ⟨rfl, qz⟩
                  go_wp2_with fail
                  go_ret
                  exact ⟨rfl, (P7.out.trans q).trans qz⟩

set_option maxRecDepth 100000 in
theorem lifted (os : Os) (started : os.Started) (H : Type) (enc : TypeId × Value → H) :
    ReturnsInHanded {} Try.checked os 9 .any (Rows.changeLastSpec.pre6 enc Try.prog Try.f9 Rows.changeLastRow.domain false) (Rows.changeLastSpec.post enc Try.prog Try.f9 false true false false) := by
  refine returnsInHanded_of_change (C := Try.checked) own started (by kernel_rfl) Try.func9
    (ChangeSpec.witness6 (enc := enc) (C := Try.checked) false ⟨#[], #[.slice none 0 0, .agg #[.string ByteArray.empty, .string ByteArray.empty, .bool false]], []⟩ 8 (by kernel_rfl) (by kernel_rfl) (by kernel_rfl) (by kernel_rfl)) ?_
  intro W base args ds gs before hval0 hW hcnd _
  have hval : ∀ (j : Nat) t v, Try.f9.params[j]? = some t → args[j]? = some v → Value.okWide Try.prog W .any base t v := hval0
  have hW' := hW
  obtain ⟨p, q, hA0, hV, rfl, hfz, hnd⟩ := hW
  have hA : DataW.TrodAll enc Try.prog W 0 (fun _ => true) true Try.f9.params.toList args.toList ds p := hA0
  rw [Try.params9] at hA hval
  obtain ⟨v0, vs0, d0, ds0, p0, q0, hargs, rfl, rfl, h0, r0⟩ := trodAll_cons hA
  obtain ⟨v1, vs1, d1, ds1, p1, q1, rfl, rfl, rfl, h1, r1⟩ := trodAll_cons r0
  obtain ⟨rfl, rfl, rfl⟩ := trodAll_nil r1
  obtain rfl : args = #[v0, v1] := by cases args; simp_all
  obtain ⟨rfl, rfl⟩ := trodVars_none hV
  clear hA0 hval0
  simp only [List.append_nil] at hW'
  have hlt : ∀ x ∈ p0 ++ p1, x.block < W.heap.size := fun x hx => by simpa using hW'.lt x (by simpa using hx)
  obtain ⟨l0, t0, z0⟩ := open_ntes (hval 0 22 v0 rfl rfl) h0
  obtain ⟨x1, rfl, y1⟩ := open_chg (hval 1 37 v1 rfl rfl) h1
  refine (walk l0 v0 x1 W t0 z0 y1).mono fun e W' ⟨he, bel⟩ => ?_
  subst he
  refine ⟨_, rfl, _, _, _, [], _, [], hW', trodAll_mk1 (shut_bool Try.underlying4 _), (trodAll_cons_mk (Below.trod laid (by kernel_rfl) (of_decide_eq_true (by kernel_rfl)) h0 bel (fun x hx => hlt x (by simp [hx]))) (trodAll_cons_mk (Below.trod laid (by kernel_rfl) (of_decide_eq_true (by kernel_rfl)) h1 bel (fun x hx => hlt x (by simp [hx]))) trodAll_mk0)), rfl, Below.frame bel _, fun h => by cases h⟩

theorem over : Rows.changeLastRow.holds Try.pinned (OpenSpec.ofChange Rows.changeLastSpec) :=
  OpenClaim.holds_of_wide 9 Try.f9 rfl rfl rfl rfl rfl rfl rfl ⟨rfl, rfl, rfl, rfl, rfl⟩ rfl rfl rfl rfl rfl (by kernel_rfl) Try.func9 (by kernel_rfl)
    (of_decide_eq_true (by kernel_rfl)) (by unfold Func.isWrapper; first | (rw [if_pos (by decide +kernel)]; kernel_rfl) | (rw [if_neg (by decide +kernel)]; exact ⟨rfl, rfl⟩))
    (fun os started H enc _ => lifted os started H enc)

theorem proved : Rows.ChangeLastSaid := over
#print axioms proved
end Go.Proofs.Ythlbpjopkaninaa.changeLast
