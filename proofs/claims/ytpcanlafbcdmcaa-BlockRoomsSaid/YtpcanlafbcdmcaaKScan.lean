/-
  Contract of the program's Scan.
-/
import Derived.Test.YtpcanlafbcdmcaaKFirst
import Derived.Test.YtpcanlafbcdmcaaKTail
namespace Go.Proofs.Ytpcanlafbcdmcaa
set_option maxRecDepth 100000
open Go.ChangeShapes Go.WideShapes Go.ChangeAt Go.RowKit
set_option linter.unusedVariables false
set_option linter.unusedSimpArgs false
set_option maxRecDepth 100000

theorem info_str : (Try.prog.info? 9).map (fun i => (i.zero, i.size, i.bytes)) = some (some (.string ⟨#[]⟩), 1, 16) := by kernel_rfl
/-- A row of texts of the call's own. -/
def OwnT (base : Nat) (w : World) (v : Value) (l : List ByteArray) : Prop := w.ownsRow base 9 1 v l.length (l.map Value.string)
theorem OwnT.nil (base : Nat) (w : World) : OwnT base w (.slice none 0 0) [] := World.ownsRow_nil w _ _ _
theorem OwnT.on {base : Nat} {w w' : World} {v : Value} {l : List ByteArray} (h : OwnT base w v l) (q : Q w w') : OwnT base w' v l := by
  rcases h.2 with ⟨rfl, h0⟩ | ⟨g, cap, cur, rfl, hb, hg, h1, h2, h3, h4⟩
  · exact ⟨h.1, .inl ⟨rfl, h0⟩⟩
  · exact ⟨h.1, .inr ⟨g, cap, cur, rfl, hb, (q.block g (lt_of_block hg)).trans hg, h1, h2, h3, h4⟩⟩
theorem OwnT.form {base : Nat} {w : World} {v : Value} {l : List ByteArray} (h : OwnT base w v l) : ∃ A c, v = .slice A l.length c ∧ l.length ≤ c := by
  rcases h.2 with ⟨rfl, h0⟩ | ⟨g, cap, cur, rfl, -, -, h1, -⟩
  · exact ⟨none, 0, by rw [h0], by omega⟩
  · exact ⟨_, _, rfl, h1⟩
theorem OwnT.tcs {base : Nat} {w : World} {v : Value} {l : List ByteArray} (h : OwnT base w v l) : Tcs w w.heap.size v l := Tcs.own h
theorem wp_snoc_txt {o : Oper} {a : Act} {K : Act → World → Prop} {Q' : Exit → Act → World → Prop} (w : World) (s x : Operand)
    (ho : o.op = .call { callee := .builtin .append, args := #[s, x], argTypes := #[28, 28] })
    (base g : Nat) (v : Value) (l : List ByteArray) (y : ByteArray) {c : Nat} (hs : a.eval s = v) (hx : a.eval x = .slice (some ⟨g, 0, none⟩) 1 c) (hgg : w.cell? ⟨g, 0, none⟩ = some (.string y)) (h : OwnT base w v l)
    (hb : base ≤ w.heap.size) (hl : l.length ≤ 4000000)
    (k : ∀ v' w', OwnT base w' v' (l ++ [y]) → w.grownBy w' v.ownBlock → K (a.put o.dst v') w') : Oper.wp Try.prog o a w K Q' := by
  obtain ⟨i0, hi0, hz0, hz1, hz2⟩ := info_parts info_str
  obtain ⟨v', w', h1, h2, h3, -⟩ := run_append_own (P := Try.prog) w base 28 o.type 9 i0 (.string ⟨#[]⟩) 1 16 Try.underlying28 hi0 hz0 hz1 hz2 rfl (by decide) v l.length (l.map Value.string) h ⟨g, 0, none⟩ 1 c [.string y] rfl (by
    intro j u hu
    cases j with
    | zero => injection hu with hu; subst hu; exact hgg
    | succ j => cases hu) (by intro u hu; rw [List.mem_singleton.1 hu]; rfl) (by unfold maxLen; omega) (by omega) hb
  unfold Oper.wp execOp
  simp only [ho, resolve, invoke, builtin, Sem.run_bind, Sem.run_pure, Result.andThen_ok, List.map_toArray, List.map_cons, List.map_nil, hs, hx, h1]
  exact k v' w' (by unfold OwnT; rw [List.length_append, List.map_append]; exact h2) h3
theorem OwnT.below {base : Nat} {w0 wr w2 : World} {v : Value} {l : List ByteArray} (hbel : Below base w0 wr) (hb : base ≤ wr.heap.size) (hown : OwnT base wr v l) (h2 : wr.grownBy w2 v.ownBlock) : Below base w0 w2 :=
  hbel.grown h2 hb fun j ej => (World.ownsRow.lt hown j ej).1
def lenV : Value → Nat
  | .slice _ n _ => n
  | _ => 0
/-- What Scan answers: records, how many blocks the tail has, an error's number. -/
def scanV (l : List ByteArray) : List ByteArray × Nat × Nat :=
  if ∀ b ∈ l, b.size = 64 then ((allK l).1, (allK l).2.1, if (allK l).2.2 then 0 else 11) else ([], 0, 1)
theorem scanV_arg {l : List ByteArray} (i : Nat) (h : i < l.length) (hb : ¬ l[i].size = 64) : scanV l = ([], 0, 1) := by
  rw [scanV, if_neg]; exact fun k => hb (k _ (List.getElem_mem h))
theorem scanV_all {l : List ByteArray} (h : ∀ b ∈ l, b.size = 64) (h0 : (restK l).length = 0) : scanV l = (recsK l, 0, 0) := by
  rw [scanV, if_pos h, allK_eq, if_pos (.inl h0)]; simp [h0]
theorem scanV_tail {l : List ByteArray} (h : ∀ b ∈ l, b.size = 64) (h1 : tailK (restK l) = true) : scanV l = (recsK l, (restK l).length, 0) := by
  rw [scanV, if_pos h, allK_eq, if_pos (.inr h1)]; rfl
theorem scanV_bad {l : List ByteArray} (h : ∀ b ∈ l, b.size = 64) (h0 : 0 < (restK l).length) (h1 : tailK (restK l) = false) : scanV l = ([], 0, 11) := by
  rw [scanV, if_pos h, allK_eq, if_neg (by rintro (h | h); omega; rw [h1] at h; cases h)]; rfl
def ScanP (w : World) (l : List ByteArray) (e : Ending) (w' : World) : Prop :=
  ∃ A c, e = .returned (.tuple #[.slice A (scanV l).1.length c, .int .i64 ((scanV l).2.1 : Nat), .int .i64 ((scanV l).2.2 : Nat)]) ∧ Tcs w' w'.heap.size (.slice A (scanV l).1.length c) (scanV l).1 ∧ Q w w'
set_option maxHeartbeats 8000000 in
theorem scan_any (l : List ByteArray) (v : Value) (w : World) (hl : l.length ≤ 1000000) (ht : Tcs w w.heap.size v l) :
    Calls Try.prog 16 #[v] w (ScanP w l) := by
  obtain ⟨PO, hPO⟩ : ∃ PO, PO = ScanP w l := ⟨_, rfl⟩
  rw [← hPO]
  have HPO : Hid (∀ A c n k w' R, scanV l = (R, n, k) → Tcs w' w'.heap.size (.slice A R.length c) R → Q w w' → PO (.returned (.tuple #[.slice A R.length c, .int .i64 (n : Nat), .int .i64 (k : Nat)])) w') := Lib.hid (by
    intro A c n k w' R h h2 h3
    rw [hPO]
    refine ⟨A, c, ?_, ?_, h3⟩
    · rw [h]
    · rw [h]; exact h2)
  clear hPO
  obtain ⟨A, c, rfl, hlc⟩ := ht.form
  have HT := Lib.hid ht
  have HARG := Lib.hid (fun i h hb => scanV_arg (l := l) i h hb)
  have HALL := Lib.hid (scanV_all (l := l))
  have HTAIL := Lib.hid (scanV_tail (l := l))
  have HBAD := Lib.hid (scanV_bad (l := l))
  have HLC := Lib.hid hlc
  clear ht hlc
  go_enter Try.func16, Try.ntmps16
  go_wp2_with fail
  go_loopw [12] (fun I wr => ∃ j : Nat, j ≤ l.length ∧ I = .int .i64 j ∧ Hid (∀ i (h : i < l.length), i < j → l[i].size = 64) ∧ D w wr) (fun I _ => l.length - (intOf I).toNat)
  case atStart => exact ⟨0, Nat.zero_le _, rfl, Lib.hid (fun i h h2 => absurd h2 (by omega)), D.refl _⟩
  case round =>
    obtain ⟨j, hj, rfl, HA, hd⟩ := hrel
    by_cases hlt : j < l.length
    · obtain ⟨a, c', hv, -, ha, hcs⟩ := HT.out.at (by omega)
      injection hv with e1 e2 e3
      subst e1 e3
      have hat : wr.cell? (a.add j) = some (.string l[j]) := (hd.q.cell (by rw [add_block]; exact ha)).trans (hcs j hlt)
      have HX := Lib.hid (HARG.out j hlt)
      have HNX : Hid (l[j].size = 64 → ∀ i (h : i < l.length), i < j + 1 → l[i].size = 64) := Lib.hid (fun hh i h h2 => by
        by_cases h3 : i < j
        · exact HA.out i h h3
        · obtain rfl : i = j := by omega
          exact hh)
      obtain ⟨y, hy⟩ : ∃ y, y = l[j] := ⟨_, rfl⟩
      rw [← hy] at hat HX HNX
      clear hy hcs
      have hlt' : (j : Int) < (l.length : Int) := by omega
      by_cases hb : y.size = 64
      · have hb' : (y.size : Int) = 64 := by omega
        have hb2 : ((y.size : Int) != 64) = false := by rw [hb']; rfl
        have HNX2 := Lib.hid (HNX.out hb)
        clear HX HNX hb
        go_wp2_with fail
        go_roundw
        case rel => exact ⟨j + 1, by omega, by go_num, HNX2, hd⟩
        case measure => simp [intOf]; omega
      · have hb' : ¬ (y.size : Int) = 64 := by omega
        have hb2 : ((y.size : Int) != 64) = true := by simp; omega
        have HV := Lib.hid (HX.out hb)
        clear HX HNX hb
        go_wp2_with fail
        (try simp only [Exit.inBlock, Exit.then])
        go_ret3
        exact HPO.out none 0 0 1 _ [] HV.out (Tcs.nil _ _) hd.q
    · obtain rfl : j = l.length := by omega
      have HZ : Hid (∀ b ∈ l, b.size = 64) := Lib.hid (fun b hb => by
        obtain ⟨i, hi, rfl⟩ := List.getElem_of_mem hb
        exact HA.out i hi hi)
      have HQ := Lib.hid hd.q
      clear HA hd HARG
      go_wp2_with fail
      have M1 := Lib.hid (fun (n : Nat) (w : World) (hn : n ≤ 12000) => many_any (n : Int) w (by omega))
      go_loopw [0, 7] (fun V O wr => ∃ L R : List ByteArray, Hid (∀ b ∈ L, b.size = 64) ∧ Hid (recsK l = R ++ recsK L ∧ restK l = restK L ∧ L.length ≤ l.length ∧ R.length ≤ l.length - L.length) ∧ (∃ A1 c1, V = .slice A1 L.length c1) ∧ Hid (Tcs w w.heap.size V L) ∧ Hid (OwnT w.heap.size wr O R) ∧ Hid (Q w wr)) (fun V _ _ => lenV V)
      case atStart => exact ⟨l, [], HZ, Lib.hid ⟨rfl, rfl, Nat.le_refl _, by simp⟩, ⟨A, c, rfl⟩, HT, Lib.hid (OwnT.nil _ _), HQ⟩
      case round =>
        obtain ⟨L, R, HZL, HE, ⟨A1, c1, rfl⟩, HTL, HO, HQ⟩ := hrel
        obtain ⟨A2, c2, rfl, hoc⟩ := HO.out.form
        by_cases h0 : 0 < L.length
        · have h0' : (0 : Int) < (L.length : Int) := by omega
          have hLl : L.length ≤ 1000000 := by have := HE.out.2.2.1; omega
          have F := Lib.hid (first_any L _ wr h0 HZL.out hLl (HTL.out.on HQ.out))
          cases hf : firstK L with
          | none =>
            rw [hf] at F
            have HE2 : Hid (recsK l = R ∧ restK l = L) := Lib.hid (by
              obtain ⟨e1, e2⟩ := recsK_none hf
              obtain ⟨g1, g2, -, -⟩ := HE.out
              rw [e1, List.append_nil] at g1
              exact ⟨g1, by rw [g2, e2]⟩)
            have T := Lib.hid (fun x (q : Q wr x) => tail_any L _ x h0 HZL.out hLl (HTL.out.on (HQ.out.trans q)))
            have HF := Lib.hid hf
            clear hf
            go_wp2_with fail
            refine F.out.mono ?_
            rintro e w1 ⟨rfl, q1⟩
            simp only [firV]
            have Q1 := Lib.hid q1
            clear q1
            cases ht : tailK L with
            | true =>
              have HV := Lib.hid (HTAIL.out HZ.out (by rw [HE2.out.2]; exact ht))
              rw [ht] at T
              clear ht
              go_wp2_with fail
              refine (T.out _ Q1.out).mono ?_
              rintro e w2 ⟨rfl, q2⟩
              have Q3 := Lib.hid (Q1.out.trans q2)
              clear q2
              go_wp2_with fail
              (try simp only [Exit.inBlock, Exit.then])
              go_ret3
              exact HPO.out A2 c2 L.length 0 _ R (by rw [HV.out, HE2.out.1, HE2.out.2]) (HO.out.tcs.on Q3.out) (HQ.out.trans Q3.out)
            | false =>
              have HV := Lib.hid (HBAD.out HZ.out (by rw [HE2.out.2]; exact h0) (by rw [HE2.out.2]; exact ht))
              rw [ht] at T
              clear ht
              go_wp2_with fail
              refine (T.out _ Q1.out).mono ?_
              rintro e w2 ⟨rfl, q2⟩
              have Q3 := Lib.hid (Q1.out.trans q2)
              clear q2
              go_wp2_with fail
              (try simp only [Exit.inBlock, Exit.then])
              go_ret3
              exact HPO.out none 0 0 11 _ [] HV.out (Tcs.nil _ _) (HQ.out.trans Q3.out)
          | some s =>
            rw [hf] at F
            have HFS := Lib.hid (first_some hf)
            have HRS := Lib.hid (recsK_some hf)
            have hs12 : s.size ≤ 12000 := HFS.out.1
            clear hf
            go_wp2_with fail
            refine F.out.mono ?_
            rintro e w1 ⟨rfl, q1⟩
            simp only [firV]
            have Q1 := Lib.hid q1
            clear q1
            go_wp2_with fail
            have hsz : s.size ≤ 12000 := hs12
            obtain ⟨a1, c1', hv, hLc, ha1, -⟩ := HTL.out.at h0
            injection hv with e1 e2 e3
            subst e1 e3
            obtain ⟨k, hk⟩ : ∃ k, k = manyK s.size := ⟨_, rfl⟩
            have hkL : k ≤ L.length := by rw [hk]; exact HFS.out.2.1
            have hkp : 0 < k := by rw [hk]; exact manyK_pos hs12
            have M := M1.out s.size
            rw [manyI_nat, ← hk] at M
            have HMm := Lib.hid fun w => M w hs12
            have HK := Lib.hid hk
            have hkc : (k : Int) ≤ (L.length : Int) := by omega
            have hkc2 : (k : Int) ≤ (c1 : Int) := by omega
            have hkc3 : k ≤ c1 := by omega
            clear M hk
            have qd := Q1.out.drew
            obtain ⟨wd, hwd⟩ : ∃ z, z = w1.drew := ⟨_, rfl⟩
            refine wp_region_held_drew (S := fun _ => True) (by kernel_rfl) trivial (fun hHeld => ?_)
            rw [← hwd] at qd ⊢
            clear hwd
            refine tkV 0 ?_
            refine tkV 1 ?_
            refine tkV 4 ?_
            refine tkV 5 ?_
            refine tkV 6 ?_
            refine aR [2] ?_
            refine AllReadyH.cons (o := _) rfl (fun K hK => ?_) AllReadyH.nil
            go_simp
            have bx := Bx.new wd 9 #[.string s]
            have qa := qd.alloc (.cells #[.string s] 9)
            obtain ⟨g, hg⟩ : ∃ g, g = wd.heap.size := ⟨_, rfl⟩
            rw [← hg] at bx
            refine hK.out _ _ trivial (fun _ => ?_)
            rw [← hg]
            obtain ⟨wa, hwa⟩ : ∃ z, z = wd.alloc (.cells #[.string s] 9) := ⟨_, rfl⟩
            rw [← hwa] at bx qa ⊢
            clear hwa hK K hg
            refine pg ?_
            refine aR [3] ?_
            refine AllReadyH.cons (o := _) rfl (fun K hK => ?_) AllReadyH.nil
            rw [if_pos (by rfl)]
            have oa := HO.out.on qa
            have hwr : w.heap.size ≤ wr.heap.size := HQ.out.size
            have hRl : R.length ≤ 4000000 := by have := HE.out.2.2.2; omega
            refine wp_snoc_txt wa _ _ rfl w.heap.size g _ R s rfl rfl (bx.cell 0) oa (by have := qa.size; omega) hRl ?_
            intro v5 w5 ho5 hg5
            obtain ⟨A5, c5, rfl, hc5⟩ := ho5.form
            have QW : Hid (Q w w5) := Lib.hid (OwnT.below (HQ.out.trans qa) (by have := qa.size; omega) oa hg5)
            refine hK.out _ _ trivial (fun _ => ?_)
            clear hK K
            refine pg ?_
            rw [List.length_append, List.length_singleton] at ho5
            have HO5 := Lib.hid ho5
            clear oa qa bx hg5 ho5
            refine aR [7] ?_
            refine AllReadyH.cons (o := _) rfl (fun K hK => ?_) AllReadyH.nil
            go_simp
            go_at_call 12
            refine (HMm.out _).mono ?_
            rintro e w6 ⟨rfl, rfl⟩
            refine hK.out _ _ trivial (fun _ => ?_)
            clear hK K
            refine pg ?_
            refine tkB 8 (.slice (if c1 = k then some a1 else some (a1.add k)) (L.length - k) (c1 - k)) ?_
            refine tkV 9 ?_
            refine tkV 10 ?_
            refine wpAnyH_done (by kernel_rfl) ?_ _
            (try simp only [Exit.inBlock, Exit.then])
            go_roundw
            case rel =>
              have hcd := HTL.out.cutDrop hkL
              have hdl : (L.drop k).length = L.length - k := by rw [List.length_drop]
              refine ⟨_, _, _, _, _, _, _, _, _, _, _, _, _, _, _, _, _, _, _, _, _, _, _, ⟨L.drop k, R ++ [s], Lib.hid (fun b hb => HZL.out b (List.mem_of_mem_drop hb)), Lib.hid ?_, ⟨_, _, by rw [hdl]⟩, Lib.hid hcd, HO5, QW⟩, rfl⟩
              obtain ⟨g1, g2, g3, g4⟩ := HE.out
              obtain ⟨r1, r2⟩ := HRS.out
              rw [← HK.out] at r1 r2
              refine ⟨by rw [g1, r1, List.append_assoc]; rfl, by rw [g2, r2], by omega, by rw [List.length_append, List.length_singleton]; omega⟩
            case measure => simp [lenV]; omega
        · have hl0 : L = [] := List.length_eq_zero_iff.1 (by omega)
          have HV : Hid (scanV l = (R, 0, 0)) := Lib.hid (by
            subst hl0
            obtain ⟨g1, g2, -, -⟩ := HE.out
            rw [HALL.out HZ.out (by rw [g2]; rfl), g1]
            simp [recsK, scanK])
          have hl1 : ¬ (0 : Int) < (L.length : Int) := by omega
          have hl2 : decide (0 < L.length) = false := by simpa using h0
          have hl3 : (L.length : Int) = 0 := by omega
          clear hl0
          go_wp2_with fail
          (try simp only [Exit.inBlock, Exit.then])
          go_ret3
          exact HPO.out A2 c2 0 0 _ R HV.out HO.out.tcs HQ.out
end Go.Proofs.Ytpcanlafbcdmcaa
