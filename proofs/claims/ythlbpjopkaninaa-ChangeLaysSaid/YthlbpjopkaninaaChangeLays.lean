/-
  Proved: whatever notes and octets ChangeLays is called with, it returns true and leaves what it was given as it was. No condition.
-/
import Derived.Test.YthlbpjopkaninaaNh
import Derived.Test.YthlbpjopkaninaaNi
namespace Go.Proofs.Ythlbpjopkaninaa.changeLays
set_option maxRecDepth 100000
open Go.ChangeShapes Go.WideShapes Go.ChangeAt Go.RowKit
open Go.ChangeMaps (open_string shut_string)
set_option linter.unusedVariables false
set_option linter.unusedSimpArgs false

theorem tkn_ok (s : ByteArray) : (tknL s).length ≤ 1000 ∧ ∀ x ∈ tknL s, okW x := by
  unfold tknL takeV
  split
  · obtain ⟨h1, h2⟩ := whl_szs s
    refine ⟨?_, ?_⟩
    · rw [Option.getD_some, rawN_len]; omega
    · rw [Option.getD_some]; exact rawN_okW h2 (by omega)
  · exact ⟨by simp, by simp⟩
theorem tkn_is (s : ByteArray) : (tknE s = 2 ∧ (takeV s).isSome = false) ∨ (tknE s = 0 ∧ (takeV s).isSome = true) := by
  unfold tknE
  cases takeV s with
  | none => exact .inl ⟨rfl, rfl⟩
  | some l => exact .inr ⟨rfl, rfl⟩
set_option maxHeartbeats 8000000 in
set_option maxRecDepth 100000 in
theorem walk (l : List Nte) (v : Value) (x : ByteArray) (w : World) (t0 : Ntes w w.heap.size v l) (z0 : l.length ≤ maxLen) (t1 : x.size ≤ maxLen) :
    Calls Try.prog 3 #[v, .string x] w fun e w' => e = .returned (.bool true) ∧ Q w w' := by
  have F1 := Lib.hid (fewNs_any l v w z0 t0)
  have okA : ∀ x ∈ fewNs l, okW x := fewNs_okW t0.okAll
  have lA := fewNs_len l
  obtain ⟨A, hA⟩ : ∃ A, A = fewNs l := ⟨_, rfl⟩
  rw [← hA] at F1 okA lA
  have hst : ∀ x ∈ A, x.st < 18446744073709551616 := fun x hx => (okA x hx).1
  clear hA t0 z0
  have OA := Lib.hid okA
  have K1 := Lib.hid (fun (x : World) (u : Value) (h : Ntes x x.heap.size u A) => layN_any A u x h)
  have K2 := Lib.hid (fun (x : World) (u : Value) (h : Ntes x x.heap.size u A) => rlayN_any A u x (by omega) h)
  have S2 := Lib.hid (fun (x : World) (u v : Value) (h : Ntes x x.heap.size u A) (k : Ntes x x.heap.size v A) => nsame_any A A u v x (by omega) (by omega) h k)
  have hd2 : decide (A = A) = true := by simp
  rw [hd2] at S2
  have SZ := layV_sz A
  obtain ⟨⟨T, k⟩, hT⟩ : ∃ x, layV A = x := ⟨_, rfl⟩
  have KT : Hid (k = 0 → ∀ y : World, Calls Try.prog 14 #[.string T] y fun e w' => ∃ v', e = .returned (.tuple #[v', .int .i64 0]) ∧ OwnW y.heap.size w' v' A ∧ Q y w') := Lib.hid (by
    intro hk y
    subst hk
    have h1 := tk_some (lay_take hT hst)
    rw [hT] at SZ
    simp only at SZ
    have h2 := takeN_any T y (by omega)
    unfold TakeN at h2
    rw [h1.1, h1.2] at h2
    exact h2)
  rw [hT] at K1 K2
  simp only at K1 K2
  have hTT : (!(T.toList == T.toList)) = false := by simp
  clear hT SZ hst hd2 okA
  by_cases hx : 13000 < x.size
  · have hx' : (13000 : Int) < (x.size : Int) := by omega
    go_enter Try.func3, Try.ntmps3
    go_wp2_with fail
    refine (F1.out).mono ?_
    rintro e w1 ⟨v1, rfl, o1, p1⟩
    have ra := Lib.hid (OwnW.read o1 OA.out)
    have SZ : (x.extract 0 13000).size ≤ 13000 := by rw [size_cut _ (by omega)]; omega
    have K3 : Hid (∀ y : World, Calls Try.prog 14 #[.string (x.extract 0 13000)] y fun e w' => ∃ v', e = .returned (.tuple #[v', .int .i64 (tknE (x.extract 0 13000) : Nat)]) ∧ OwnW y.heap.size w' v' (tknL (x.extract 0 13000)) ∧ Q y w') := Lib.hid (fun y => takeN_any (x.extract 0 13000) y (by omega))
    have K4 : Hid (∀ y : World, Calls Try.prog 15 #[.string (x.extract 0 13000)] y fun e w' => ∃ v', e = .returned (.tuple #[v', .bool (takeV (x.extract 0 13000)).isSome]) ∧ OwnW y.heap.size w' v' (tknL (x.extract 0 13000)) ∧ Q y w') := Lib.hid (fun y => rtakeN_any (x.extract 0 13000) y (by omega))
    have HIS := tkn_is (x.extract 0 13000)
    obtain ⟨lL, okL2⟩ := tkn_ok (x.extract 0 13000)
    obtain ⟨L, hL⟩ : ∃ L, L = tknL (x.extract 0 13000) := ⟨_, rfl⟩
    obtain ⟨E, hE⟩ : ∃ E, E = tknE (x.extract 0 13000) := ⟨_, rfl⟩
    obtain ⟨B, hB⟩ : ∃ B, B = (takeV (x.extract 0 13000)).isSome := ⟨_, rfl⟩
    rw [← hL] at K3 K4 lL okL2
    rw [← hE] at K3 HIS
    rw [← hB] at K4 HIS
    have OL := Lib.hid okL2
    have S1 := Lib.hid (fun (x : World) (u v : Value) (h : Ntes x x.heap.size u L) (k : Ntes x x.heap.size v L) => nsame_any L L u v x (by omega) (by omega) h k)
    have hd1 : decide (L = L) = true := by simp
    rw [hd1] at S1
    have HB := Lib.hid HIS
    clear hL hE hB hd1 okL2 HIS SZ
    go_wp2_with fail
    refine (K1.out _ _ ra.out).mono ?_
    rintro e w2 ⟨rfl, q2⟩
    have ra := Lib.hid (ra.out.on q2)
    have p2 := p1.trans q2
    go_wp2_with fail
    refine (K2.out _ _ ra.out).mono ?_
    rintro e w3 ⟨rfl, q3⟩
    have ra := Lib.hid (ra.out.on q3)
    have p3 := p2.trans q3
    go_wp2_with fail
    refine (K3.out _).mono ?_
    rintro e w4 ⟨v4, rfl, o4, q4⟩
    have ra := Lib.hid (ra.out.on q4)
    have rx := Lib.hid (OwnW.read o4 OL.out)
    have p4 := p3.trans q4
    go_wp2_with fail
    refine (K4.out _).mono ?_
    rintro e w5 ⟨v5, rfl, o5, q5⟩
    have ra := Lib.hid (ra.out.on q5)
    have rx := Lib.hid (rx.out.on q5)
    have ry := Lib.hid (OwnW.read o5 OL.out)
    have p5 := p4.trans q5
    rcases HB.out with ⟨hE, hB⟩ | ⟨hE, hB⟩
    · subst hE hB
      clear HB
      go_wp2_with fail
      refine (S1.out _ _ _ rx.out ry.out).mono ?_
      rintro e w6 ⟨rfl, d6⟩
      have q6 := d6.q
      have ra := Lib.hid (ra.out.on q6)
      clear rx ry
      have p6 := p5.trans q6
      obtain ⟨A1, c1, ea, -, -, -, h1⟩ := id ra.out
      subst ea
      have H1 := Lib.hid h1
      have HP := Lib.hid p6
      clear h1 p6
      go_wp2_with fail
      go_loopw [13] (fun I wr => ∃ i : Nat, i ≤ A.length ∧ I = .int .i64 i ∧ Q w6 wr) (fun I _ => A.length - (intOf I).toNat)
      case atStart => exact ⟨0, Nat.zero_le _, rfl, Q.refl _⟩
      case round =>
        obtain ⟨i, hil, rfl, q⟩ := hrel
        by_cases hlt : i < A.length
        · obtain ⟨a, hae, ha, hat⟩ := H1.out i hlt
          subst hae
          have KS : Hid (∀ x, Q w6 x → AtW x (a.add (i * 4)) A[i]) := Lib.hid fun x qx => hat.keep (by rw [add_block]; exact ha) fun p hp => qx.cell hp
          obtain ⟨y, hy⟩ : ∃ y, y = A[i] := ⟨_, rfl⟩
          rw [← hy] at KS
          unfold AtW at KS
          have M := Lib.hid (fun (x : World) => may_any y x)
          have R := Lib.hid (fun (x : World) => rmayN_any y x)
          rw [nte] at M R
          obtain ⟨b, hb⟩ : ∃ b, b = okNt y := ⟨_, rfl⟩
          rw [← hb] at M R
          have hilt : (i : Int) < (A.length : Int) := by omega
          have hbb : (b != b) = false := by simp
          clear hat hy hb
          have q0 := q.drew
          go_wp2_with fail
          refine wp_region_held_drew (S := (fun W => W.cell? (a.add (i * 4)) = some (.int .u64 (y.st : Nat)) ∧ W.cell? ⟨(a.add (i * 4)).block, (a.add (i * 4)).off + 1, none⟩ = some (.string y.n) ∧ W.cell? ⟨(a.add (i * 4)).block, (a.add (i * 4)).off + 2, none⟩ = some (.string y.val) ∧ W.cell? ⟨(a.add (i * 4)).block, (a.add (i * 4)).off + 3, none⟩ = some (.bool y.gone))) (by kernel_rfl) (KS.out _ q0) (fun hHeld => ?_)
          refine tkV 0 ?_
          refine tkV 1 ?_
          refine tkV 2 ?_
          refine tkV 3 ?_
          refine tkV 5 ?_
          refine tkV 6 ?_
          refine tkV 7 ?_
          refine tkV 8 ?_
          refine aR [4] ?_
          refine AllReadyH.cons (o := _) rfl (fun K hK => ?_) AllReadyH.nil
          go_simp
          go_at_call 17
          refine (M.out _).mono ?_
          rintro e x1 ⟨rfl, d1⟩
          have q1 := q0.trans d1
          refine hK.out _ _ (KS.out _ q1) (fun hHeld2 => ?_)
          clear hK K
          refine pg ?_
          refine aR [9] ?_
          refine AllReadyH.cons (o := _) rfl (fun K hK => ?_) AllReadyH.nil
          go_simp
          go_at_call 18
          refine (R.out _).mono ?_
          rintro e x2 ⟨rfl, d2⟩
          have q2 := q1.trans d2
          refine hK.out _ _ (KS.out _ q2) (fun hHeld2 => ?_)
          clear hK K
          refine pg ?_
          refine tkB 10 (.bool false) ?_
          refine wpAnyH_done (by kernel_rfl) ?_ _
          go_wp2_with fail
          go_roundw
          case rel => exact ⟨i + 1, by omega, by go_num, q2⟩
          case measure => simp [intOf]; omega
        · have h2 : ¬ (i : Int) < (A.length : Int) := by omega
          have ra := Lib.hid (ra.out.on q)
          have p6 := HP.out.trans q
          clear H1
          by_cases hk : k = 0
          · subst hk
            have KZ : Hid (∀ y : World, Calls Try.prog 14 #[.string T] y fun e w' => ∃ v', e = .returned (.tuple #[v', .int .i64 0]) ∧ OwnW y.heap.size w' v' A ∧ Q y w') := Lib.hid (KT.out rfl)
            clear KT
            go_wp2_with fail
            refine (KZ.out _).mono ?_
            rintro e w7 ⟨v7, rfl, o7, q7⟩
            have ra := Lib.hid (ra.out.on q7)
            have rz := Lib.hid (OwnW.read o7 OA.out)
            have p7 := p6.trans q7
            go_wp2_with fail
            refine (S2.out _ _ _ rz.out ra.out).mono ?_
            rintro e w8 ⟨rfl, d8⟩
            have q8 := d8.q
            clear rz ra
            have p8 := p7.trans q8
            go_wp2_with fail
            refine (awakeY_any _).mono ?_
            rintro e w9 ⟨rfl, q9⟩
            have p9 := p8.trans q9
            go_wp2_with fail
            go_ret
            exact ⟨rfl, p9⟩
          · have hk' : ¬ (k : Int) = 0 := by omega
            have hk2 : ((k : Int) != 0) = true := by simpa using hk'
            clear KT
            go_wp2_with fail
            refine (awakeY_any _).mono ?_
            rintro e w7 ⟨rfl, q7⟩
            have p7 := p6.trans q7
            go_wp2_with fail
            go_ret
            exact ⟨rfl, p7⟩
    · subst hE hB
      clear HB
      go_wp2_with fail
      refine (S1.out _ _ _ rx.out ry.out).mono ?_
      rintro e w6 ⟨rfl, d6⟩
      have q6 := d6.q
      have ra := Lib.hid (ra.out.on q6)
      clear rx ry
      have p6 := p5.trans q6
      obtain ⟨A1, c1, ea, -, -, -, h1⟩ := id ra.out
      subst ea
      have H1 := Lib.hid h1
      have HP := Lib.hid p6
      clear h1 p6
      go_wp2_with fail
      go_loopw [13] (fun I wr => ∃ i : Nat, i ≤ A.length ∧ I = .int .i64 i ∧ Q w6 wr) (fun I _ => A.length - (intOf I).toNat)
      case atStart => exact ⟨0, Nat.zero_le _, rfl, Q.refl _⟩
      case round =>
        obtain ⟨i, hil, rfl, q⟩ := hrel
        by_cases hlt : i < A.length
        · obtain ⟨a, hae, ha, hat⟩ := H1.out i hlt
          subst hae
          have KS : Hid (∀ x, Q w6 x → AtW x (a.add (i * 4)) A[i]) := Lib.hid fun x qx => hat.keep (by rw [add_block]; exact ha) fun p hp => qx.cell hp
          obtain ⟨y, hy⟩ : ∃ y, y = A[i] := ⟨_, rfl⟩
          rw [← hy] at KS
          unfold AtW at KS
          have M := Lib.hid (fun (x : World) => may_any y x)
          have R := Lib.hid (fun (x : World) => rmayN_any y x)
          rw [nte] at M R
          obtain ⟨b, hb⟩ : ∃ b, b = okNt y := ⟨_, rfl⟩
          rw [← hb] at M R
          have hilt : (i : Int) < (A.length : Int) := by omega
          have hbb : (b != b) = false := by simp
          clear hat hy hb
          have q0 := q.drew
          go_wp2_with fail
          refine wp_region_held_drew (S := (fun W => W.cell? (a.add (i * 4)) = some (.int .u64 (y.st : Nat)) ∧ W.cell? ⟨(a.add (i * 4)).block, (a.add (i * 4)).off + 1, none⟩ = some (.string y.n) ∧ W.cell? ⟨(a.add (i * 4)).block, (a.add (i * 4)).off + 2, none⟩ = some (.string y.val) ∧ W.cell? ⟨(a.add (i * 4)).block, (a.add (i * 4)).off + 3, none⟩ = some (.bool y.gone))) (by kernel_rfl) (KS.out _ q0) (fun hHeld => ?_)
          refine tkV 0 ?_
          refine tkV 1 ?_
          refine tkV 2 ?_
          refine tkV 3 ?_
          refine tkV 5 ?_
          refine tkV 6 ?_
          refine tkV 7 ?_
          refine tkV 8 ?_
          refine aR [4] ?_
          refine AllReadyH.cons (o := _) rfl (fun K hK => ?_) AllReadyH.nil
          go_simp
          go_at_call 17
          refine (M.out _).mono ?_
          rintro e x1 ⟨rfl, d1⟩
          have q1 := q0.trans d1
          refine hK.out _ _ (KS.out _ q1) (fun hHeld2 => ?_)
          clear hK K
          refine pg ?_
          refine aR [9] ?_
          refine AllReadyH.cons (o := _) rfl (fun K hK => ?_) AllReadyH.nil
          go_simp
          go_at_call 18
          refine (R.out _).mono ?_
          rintro e x2 ⟨rfl, d2⟩
          have q2 := q1.trans d2
          refine hK.out _ _ (KS.out _ q2) (fun hHeld2 => ?_)
          clear hK K
          refine pg ?_
          refine tkB 10 (.bool false) ?_
          refine wpAnyH_done (by kernel_rfl) ?_ _
          go_wp2_with fail
          go_roundw
          case rel => exact ⟨i + 1, by omega, by go_num, q2⟩
          case measure => simp [intOf]; omega
        · have h2 : ¬ (i : Int) < (A.length : Int) := by omega
          have ra := Lib.hid (ra.out.on q)
          have p6 := HP.out.trans q
          clear H1
          by_cases hk : k = 0
          · subst hk
            have KZ : Hid (∀ y : World, Calls Try.prog 14 #[.string T] y fun e w' => ∃ v', e = .returned (.tuple #[v', .int .i64 0]) ∧ OwnW y.heap.size w' v' A ∧ Q y w') := Lib.hid (KT.out rfl)
            clear KT
            go_wp2_with fail
            refine (KZ.out _).mono ?_
            rintro e w7 ⟨v7, rfl, o7, q7⟩
            have ra := Lib.hid (ra.out.on q7)
            have rz := Lib.hid (OwnW.read o7 OA.out)
            have p7 := p6.trans q7
            go_wp2_with fail
            refine (S2.out _ _ _ rz.out ra.out).mono ?_
            rintro e w8 ⟨rfl, d8⟩
            have q8 := d8.q
            clear rz ra
            have p8 := p7.trans q8
            go_wp2_with fail
            refine (awakeY_any _).mono ?_
            rintro e w9 ⟨rfl, q9⟩
            have p9 := p8.trans q9
            go_wp2_with fail
            go_ret
            exact ⟨rfl, p9⟩
          · have hk' : ¬ (k : Int) = 0 := by omega
            have hk2 : ((k : Int) != 0) = true := by simpa using hk'
            clear KT
            go_wp2_with fail
            refine (awakeY_any _).mono ?_
            rintro e w7 ⟨rfl, q7⟩
            have p7 := p6.trans q7
            go_wp2_with fail
            go_ret
            exact ⟨rfl, p7⟩
  · have hx' : ¬ (13000 : Int) < (x.size : Int) := by omega
    go_enter Try.func3, Try.ntmps3
    go_wp2_with fail
    refine (F1.out).mono ?_
    rintro e w1 ⟨v1, rfl, o1, p1⟩
    have ra := Lib.hid (OwnW.read o1 OA.out)
    have SZ : x.size ≤ 13000 := by omega
    have K3 : Hid (∀ y : World, Calls Try.prog 14 #[.string x] y fun e w' => ∃ v', e = .returned (.tuple #[v', .int .i64 (tknE x : Nat)]) ∧ OwnW y.heap.size w' v' (tknL x) ∧ Q y w') := Lib.hid (fun y => takeN_any x y (by omega))
    have K4 : Hid (∀ y : World, Calls Try.prog 15 #[.string x] y fun e w' => ∃ v', e = .returned (.tuple #[v', .bool (takeV x).isSome]) ∧ OwnW y.heap.size w' v' (tknL x) ∧ Q y w') := Lib.hid (fun y => rtakeN_any x y (by omega))
    have HIS := tkn_is x
    obtain ⟨lL, okL2⟩ := tkn_ok x
    obtain ⟨L, hL⟩ : ∃ L, L = tknL x := ⟨_, rfl⟩
    obtain ⟨E, hE⟩ : ∃ E, E = tknE x := ⟨_, rfl⟩
    obtain ⟨B, hB⟩ : ∃ B, B = (takeV x).isSome := ⟨_, rfl⟩
    rw [← hL] at K3 K4 lL okL2
    rw [← hE] at K3 HIS
    rw [← hB] at K4 HIS
    have OL := Lib.hid okL2
    have S1 := Lib.hid (fun (x : World) (u v : Value) (h : Ntes x x.heap.size u L) (k : Ntes x x.heap.size v L) => nsame_any L L u v x (by omega) (by omega) h k)
    have hd1 : decide (L = L) = true := by simp
    rw [hd1] at S1
    have HB := Lib.hid HIS
    clear hL hE hB hd1 okL2 HIS SZ
    go_wp2_with fail
    refine (K1.out _ _ ra.out).mono ?_
    rintro e w2 ⟨rfl, q2⟩
    have ra := Lib.hid (ra.out.on q2)
    have p2 := p1.trans q2
    go_wp2_with fail
    refine (K2.out _ _ ra.out).mono ?_
    rintro e w3 ⟨rfl, q3⟩
    have ra := Lib.hid (ra.out.on q3)
    have p3 := p2.trans q3
    go_wp2_with fail
    refine (K3.out _).mono ?_
    rintro e w4 ⟨v4, rfl, o4, q4⟩
    have ra := Lib.hid (ra.out.on q4)
    have rx := Lib.hid (OwnW.read o4 OL.out)
    have p4 := p3.trans q4
    go_wp2_with fail
    refine (K4.out _).mono ?_
    rintro e w5 ⟨v5, rfl, o5, q5⟩
    have ra := Lib.hid (ra.out.on q5)
    have rx := Lib.hid (rx.out.on q5)
    have ry := Lib.hid (OwnW.read o5 OL.out)
    have p5 := p4.trans q5
    rcases HB.out with ⟨hE, hB⟩ | ⟨hE, hB⟩
    · subst hE hB
      clear HB
      go_wp2_with fail
      refine (S1.out _ _ _ rx.out ry.out).mono ?_
      rintro e w6 ⟨rfl, d6⟩
      have q6 := d6.q
      have ra := Lib.hid (ra.out.on q6)
      clear rx ry
      have p6 := p5.trans q6
      obtain ⟨A1, c1, ea, -, -, -, h1⟩ := id ra.out
      subst ea
      have H1 := Lib.hid h1
      have HP := Lib.hid p6
      clear h1 p6
      go_wp2_with fail
      go_loopw [13] (fun I wr => ∃ i : Nat, i ≤ A.length ∧ I = .int .i64 i ∧ Q w6 wr) (fun I _ => A.length - (intOf I).toNat)
      case atStart => exact ⟨0, Nat.zero_le _, rfl, Q.refl _⟩
      case round =>
        obtain ⟨i, hil, rfl, q⟩ := hrel
        by_cases hlt : i < A.length
        · obtain ⟨a, hae, ha, hat⟩ := H1.out i hlt
          subst hae
          have KS : Hid (∀ x, Q w6 x → AtW x (a.add (i * 4)) A[i]) := Lib.hid fun x qx => hat.keep (by rw [add_block]; exact ha) fun p hp => qx.cell hp
          obtain ⟨y, hy⟩ : ∃ y, y = A[i] := ⟨_, rfl⟩
          rw [← hy] at KS
          unfold AtW at KS
          have M := Lib.hid (fun (x : World) => may_any y x)
          have R := Lib.hid (fun (x : World) => rmayN_any y x)
          rw [nte] at M R
          obtain ⟨b, hb⟩ : ∃ b, b = okNt y := ⟨_, rfl⟩
          rw [← hb] at M R
          have hilt : (i : Int) < (A.length : Int) := by omega
          have hbb : (b != b) = false := by simp
          clear hat hy hb
          have q0 := q.drew
          go_wp2_with fail
          refine wp_region_held_drew (S := (fun W => W.cell? (a.add (i * 4)) = some (.int .u64 (y.st : Nat)) ∧ W.cell? ⟨(a.add (i * 4)).block, (a.add (i * 4)).off + 1, none⟩ = some (.string y.n) ∧ W.cell? ⟨(a.add (i * 4)).block, (a.add (i * 4)).off + 2, none⟩ = some (.string y.val) ∧ W.cell? ⟨(a.add (i * 4)).block, (a.add (i * 4)).off + 3, none⟩ = some (.bool y.gone))) (by kernel_rfl) (KS.out _ q0) (fun hHeld => ?_)
          refine tkV 0 ?_
          refine tkV 1 ?_
          refine tkV 2 ?_
          refine tkV 3 ?_
          refine tkV 5 ?_
          refine tkV 6 ?_
          refine tkV 7 ?_
          refine tkV 8 ?_
          refine aR [4] ?_
          refine AllReadyH.cons (o := _) rfl (fun K hK => ?_) AllReadyH.nil
          go_simp
          go_at_call 17
          refine (M.out _).mono ?_
          rintro e x1 ⟨rfl, d1⟩
          have q1 := q0.trans d1
          refine hK.out _ _ (KS.out _ q1) (fun hHeld2 => ?_)
          clear hK K
          refine pg ?_
          refine aR [9] ?_
          refine AllReadyH.cons (o := _) rfl (fun K hK => ?_) AllReadyH.nil
          go_simp
          go_at_call 18
          refine (R.out _).mono ?_
          rintro e x2 ⟨rfl, d2⟩
          have q2 := q1.trans d2
          refine hK.out _ _ (KS.out _ q2) (fun hHeld2 => ?_)
          clear hK K
          refine pg ?_
          refine tkB 10 (.bool false) ?_
          refine wpAnyH_done (by kernel_rfl) ?_ _
          go_wp2_with fail
          go_roundw
          case rel => exact ⟨i + 1, by omega, by go_num, q2⟩
          case measure => simp [intOf]; omega
        · have h2 : ¬ (i : Int) < (A.length : Int) := by omega
          have ra := Lib.hid (ra.out.on q)
          have p6 := HP.out.trans q
          clear H1
          by_cases hk : k = 0
          · subst hk
            have KZ : Hid (∀ y : World, Calls Try.prog 14 #[.string T] y fun e w' => ∃ v', e = .returned (.tuple #[v', .int .i64 0]) ∧ OwnW y.heap.size w' v' A ∧ Q y w') := Lib.hid (KT.out rfl)
            clear KT
            go_wp2_with fail
            refine (KZ.out _).mono ?_
            rintro e w7 ⟨v7, rfl, o7, q7⟩
            have ra := Lib.hid (ra.out.on q7)
            have rz := Lib.hid (OwnW.read o7 OA.out)
            have p7 := p6.trans q7
            go_wp2_with fail
            refine (S2.out _ _ _ rz.out ra.out).mono ?_
            rintro e w8 ⟨rfl, d8⟩
            have q8 := d8.q
            clear rz ra
            have p8 := p7.trans q8
            go_wp2_with fail
            refine (awakeY_any _).mono ?_
            rintro e w9 ⟨rfl, q9⟩
            have p9 := p8.trans q9
            go_wp2_with fail
            go_ret
            exact ⟨rfl, p9⟩
          · have hk' : ¬ (k : Int) = 0 := by omega
            have hk2 : ((k : Int) != 0) = true := by simpa using hk'
            clear KT
            go_wp2_with fail
            refine (awakeY_any _).mono ?_
            rintro e w7 ⟨rfl, q7⟩
            have p7 := p6.trans q7
            go_wp2_with fail
            go_ret
            exact ⟨rfl, p7⟩
    · subst hE hB
      clear HB
      go_wp2_with fail
      refine (S1.out _ _ _ rx.out ry.out).mono ?_
      rintro e w6 ⟨rfl, d6⟩
      have q6 := d6.q
      have ra := Lib.hid (ra.out.on q6)
      clear rx ry
      have p6 := p5.trans q6
      obtain ⟨A1, c1, ea, -, -, -, h1⟩ := id ra.out
      subst ea
      have H1 := Lib.hid h1
      have HP := Lib.hid p6
      clear h1 p6
      go_wp2_with fail
      go_loopw [13] (fun I wr => ∃ i : Nat, i ≤ A.length ∧ I = .int .i64 i ∧ Q w6 wr) (fun I _ => A.length - (intOf I).toNat)
      case atStart => exact ⟨0, Nat.zero_le _, rfl, Q.refl _⟩
      case round =>
        obtain ⟨i, hil, rfl, q⟩ := hrel
        by_cases hlt : i < A.length
        · obtain ⟨a, hae, ha, hat⟩ := H1.out i hlt
          subst hae
          have KS : Hid (∀ x, Q w6 x → AtW x (a.add (i * 4)) A[i]) := Lib.hid fun x qx => hat.keep (by rw [add_block]; exact ha) fun p hp => qx.cell hp
          obtain ⟨y, hy⟩ : ∃ y, y = A[i] := ⟨_, rfl⟩
          rw [← hy] at KS
          unfold AtW at KS
          have M := Lib.hid (fun (x : World) => may_any y x)
          have R := Lib.hid (fun (x : World) => rmayN_any y x)
          rw [nte] at M R
          obtain ⟨b, hb⟩ : ∃ b, b = okNt y := ⟨_, rfl⟩
          rw [← hb] at M R
          have hilt : (i : Int) < (A.length : Int) := by omega
          have hbb : (b != b) = false := by simp
          clear hat hy hb
          have q0 := q.drew
          go_wp2_with fail
          refine wp_region_held_drew (S := (fun W => W.cell? (a.add (i * 4)) = some (.int .u64 (y.st : Nat)) ∧ W.cell? ⟨(a.add (i * 4)).block, (a.add (i * 4)).off + 1, none⟩ = some (.string y.n) ∧ W.cell? ⟨(a.add (i * 4)).block, (a.add (i * 4)).off + 2, none⟩ = some (.string y.val) ∧ W.cell? ⟨(a.add (i * 4)).block, (a.add (i * 4)).off + 3, none⟩ = some (.bool y.gone))) (by kernel_rfl) (KS.out _ q0) (fun hHeld => ?_)
          refine tkV 0 ?_
          refine tkV 1 ?_
          refine tkV 2 ?_
          refine tkV 3 ?_
          refine tkV 5 ?_
          refine tkV 6 ?_
          refine tkV 7 ?_
          refine tkV 8 ?_
          refine aR [4] ?_
          refine AllReadyH.cons (o := _) rfl (fun K hK => ?_) AllReadyH.nil
          go_simp
          go_at_call 17
          refine (M.out _).mono ?_
          rintro e x1 ⟨rfl, d1⟩
          have q1 := q0.trans d1
          refine hK.out _ _ (KS.out _ q1) (fun hHeld2 => ?_)
          clear hK K
          refine pg ?_
          refine aR [9] ?_
          refine AllReadyH.cons (o := _) rfl (fun K hK => ?_) AllReadyH.nil
          go_simp
          go_at_call 18
          refine (R.out _).mono ?_
          rintro e x2 ⟨rfl, d2⟩
          have q2 := q1.trans d2
          refine hK.out _ _ (KS.out _ q2) (fun hHeld2 => ?_)
          clear hK K
          refine pg ?_
          refine tkB 10 (.bool false) ?_
          refine wpAnyH_done (by kernel_rfl) ?_ _
          go_wp2_with fail
          go_roundw
          case rel => exact ⟨i + 1, by omega, by go_num, q2⟩
          case measure => simp [intOf]; omega
        · have h2 : ¬ (i : Int) < (A.length : Int) := by omega
          have ra := Lib.hid (ra.out.on q)
          have p6 := HP.out.trans q
          clear H1
          by_cases hk : k = 0
          · subst hk
            have KZ : Hid (∀ y : World, Calls Try.prog 14 #[.string T] y fun e w' => ∃ v', e = .returned (.tuple #[v', .int .i64 0]) ∧ OwnW y.heap.size w' v' A ∧ Q y w') := Lib.hid (KT.out rfl)
            clear KT
            go_wp2_with fail
            refine (KZ.out _).mono ?_
            rintro e w7 ⟨v7, rfl, o7, q7⟩
            have ra := Lib.hid (ra.out.on q7)
            have rz := Lib.hid (OwnW.read o7 OA.out)
            have p7 := p6.trans q7
            go_wp2_with fail
            refine (S2.out _ _ _ rz.out ra.out).mono ?_
            rintro e w8 ⟨rfl, d8⟩
            have q8 := d8.q
            clear rz ra
            have p8 := p7.trans q8
            go_wp2_with fail
            refine (awakeY_any _).mono ?_
            rintro e w9 ⟨rfl, q9⟩
            have p9 := p8.trans q9
            go_wp2_with fail
            go_ret
            exact ⟨rfl, p9⟩
          · have hk' : ¬ (k : Int) = 0 := by omega
            have hk2 : ((k : Int) != 0) = true := by simpa using hk'
            clear KT
            go_wp2_with fail
            refine (awakeY_any _).mono ?_
            rintro e w7 ⟨rfl, q7⟩
            have p7 := p6.trans q7
            go_wp2_with fail
            go_ret
            exact ⟨rfl, p7⟩

set_option maxRecDepth 100000 in
theorem lifted (os : Os) (started : os.Started) (H : Type) (enc : TypeId × Value → H) :
    ReturnsInHanded {} Try.checked os 3 .any (Rows.changeLaysSpec.pre6 enc Try.prog Try.f3 Rows.changeLaysRow.domain false) (Rows.changeLaysSpec.post enc Try.prog Try.f3 false true false false) := by
  refine returnsInHanded_of_change (C := Try.checked) own started (by kernel_rfl) Try.func3
    (ChangeSpec.witness6 (enc := enc) (C := Try.checked) false ⟨#[], #[.slice none 0 0, .string ByteArray.empty], []⟩ 8 (by kernel_rfl) (by kernel_rfl) (by kernel_rfl) (by kernel_rfl)) ?_
  intro W base args ds gs before hval0 hW hcnd _
  have hval : ∀ (j : Nat) t v, Try.f3.params[j]? = some t → args[j]? = some v → Value.okWide Try.prog W .any base t v := hval0
  have hW' := hW
  obtain ⟨p, q, hA0, hV, rfl, hfz, hnd⟩ := hW
  have hA : DataW.TrodAll enc Try.prog W 0 (fun _ => true) true Try.f3.params.toList args.toList ds p := hA0
  rw [Try.params3] at hA hval
  obtain ⟨v0, vs0, d0, ds0, p0, q0, hargs, rfl, rfl, h0, r0⟩ := trodAll_cons hA
  obtain ⟨v1, vs1, d1, ds1, p1, q1, rfl, rfl, rfl, h1, r1⟩ := trodAll_cons r0
  obtain ⟨rfl, rfl, rfl⟩ := trodAll_nil r1
  obtain rfl : args = #[v0, v1] := by cases args; simp_all
  obtain ⟨rfl, rfl⟩ := trodVars_none hV
  clear hA0 hval0
  simp only [List.append_nil] at hW'
  have hlt : ∀ x ∈ p0 ++ p1, x.block < W.heap.size := fun x hx => by simpa using hW'.lt x (by simpa using hx)
  obtain ⟨l0, t0, z0⟩ := open_ntes (hval 0 22 v0 rfl rfl) h0
  obtain ⟨a1, rfl, -, -, w1⟩ := open_string Try.underlying9 (hval 1 9 v1 rfl rfl) h1
  refine (walk l0 v0 a1 W t0 z0 w1).mono fun e W' ⟨he, bel⟩ => ?_
  subst he
  refine ⟨_, rfl, _, _, _, [], _, [], hW', trodAll_mk1 (shut_bool Try.underlying4 _), (trodAll_cons_mk (Below.trod laid (by kernel_rfl) (of_decide_eq_true (by kernel_rfl)) h0 bel (fun x hx => hlt x (by simp [hx]))) (trodAll_cons_mk (Below.trod laid (by kernel_rfl) (of_decide_eq_true (by kernel_rfl)) h1 bel (fun x hx => hlt x (by simp [hx]))) trodAll_mk0)), rfl, Below.frame bel _, fun h => by cases h⟩

theorem over : Rows.changeLaysRow.holds Try.pinned (OpenSpec.ofChange Rows.changeLaysSpec) :=
  OpenClaim.holds_of_wide 3 Try.f3 rfl rfl rfl rfl rfl rfl rfl ⟨rfl, rfl, rfl, rfl, rfl⟩ rfl rfl rfl rfl rfl (by kernel_rfl) Try.func3 (by kernel_rfl)
    (of_decide_eq_true (by kernel_rfl)) (by unfold Func.isWrapper; first | (rw [if_pos (by decide +kernel)]; kernel_rfl) | (rw [if_neg (by decide +kernel)]; exact ⟨rfl, rfl⟩))
    (fun os started H enc _ => lifted os started H enc)

theorem proved : Rows.ChangeLaysSaid := over
#print axioms proved
end Go.Proofs.Ythlbpjopkaninaa.changeLays
