/-
  Contract of the document's Put.
-/
import Derived.Test.YteggmlefekpkfaaECheck
namespace Go.Proofs.Yteggmlefekpkfaa
open Go.ChangeShapes Go.WideShapes Go.ChangeAt Go.RowKit
set_option linter.unusedVariables false
set_option linter.unusedSimpArgs false

/-- The index in which a key has these versions. -/
def putE (l : List Ent) (key : ByteArray) (c : List Ver) : List Ent := l.filter (fun e => ltB e.key key) ++ (if c = [] then [] else [⟨key, c⟩]) ++ l.filter (fun e => ltB key e.key)
/-- What Put comes to: refused (1), too large (6), or laid. -/
def PutI (l : List Ent) (key : ByteArray) (c : List Ver) (L : List Ent) (k : Nat) : Prop :=
  (¬ (okI l ∧ hasO 1 60 ko key = true ∧ okP c) ∧ L = [] ∧ k = 1) ∨ ((okI l ∧ hasO 1 60 ko key = true ∧ okP c) ∧ ((60 < (putE l key c).length ∧ L = [] ∧ k = 6) ∨ ((putE l key c).length ≤ 60 ∧ L = putE l key c ∧ k = 0)))
theorem putI_ex (l : List Ent) (key : ByteArray) (c : List Ver) : ∃ L k, PutI l key c L k := by
  by_cases h : okI l ∧ hasO 1 60 ko key = true ∧ okP c
  · by_cases k : (putE l key c).length ≤ 60
    · exact ⟨_, _, .inr ⟨h, .inr ⟨k, rfl, rfl⟩⟩⟩
    · exact ⟨_, _, .inr ⟨h, .inl ⟨by omega, rfl, rfl⟩⟩⟩
  · exact ⟨_, _, .inl ⟨h, rfl, rfl⟩⟩
theorem putI_one {l : List Ent} {key : ByteArray} {c : List Ver} {L M : List Ent} {j k : Nat} (h : PutI l key c L k) (h' : PutI l key c M j) : L = M ∧ k = j := by
  rcases h with ⟨h1, rfl, rfl⟩ | ⟨h1, h2⟩
  · rcases h' with ⟨-, rfl, rfl⟩ | ⟨k1, -⟩
    · exact ⟨rfl, rfl⟩
    · exact absurd k1 h1
  · rcases h' with ⟨k1, -⟩ | ⟨-, k2⟩
    · exact absurd h1 k1
    · rcases h2 with ⟨a, rfl, rfl⟩ | ⟨a, rfl, rfl⟩
      · rcases k2 with ⟨b, rfl, rfl⟩ | ⟨b, -⟩
        · exact ⟨rfl, rfl⟩
        · omega
      · rcases k2 with ⟨b, -⟩ | ⟨b, rfl, rfl⟩
        · omega
        · exact ⟨rfl, rfl⟩
theorem filt_take (l : List Ent) (i : Nat) (h : i < l.length) (p : Ent → Bool) : (p l[i] = true → (l.take (i + 1)).filter p = (l.take i).filter p ++ [l[i]]) ∧ (p l[i] = false → (l.take (i + 1)).filter p = (l.take i).filter p) := by
  rw [List.take_succ_eq_append_getElem h, List.filter_append]
  refine ⟨fun k => ?_, fun k => ?_⟩
  · rw [List.filter_cons_of_pos k]; simp
  · rw [List.filter_cons_of_neg (by simp [k])]; simp
theorem filt_le (l : List Ent) (i : Nat) (p : Ent → Bool) : ((l.take i).filter p).length ≤ l.length := by
  have := List.length_filter_le p (l.take i)
  rw [List.length_take] at this; omega
theorem ownE_step {base : Nat} {w w' : World} {v v' u : Value} {P : List (Ent × Value)} {x : Ent} {o : Obj} (hr : RowE base w v P) (hf : ∀ p ∈ P, p.1.key.size ≤ maxLen ∧ Apt base w p.2 p.1.L) (hq : x.key.size ≤ maxLen) (ax : Apt base w u x.L)
    (h1 : w'.ownsRow base 48 2 v' (P.length + 1) (P.flatMap pcells ++ pcells (x, u))) (h2 : (w.alloc o).grownBy w' v.ownBlock) (hs : base ≤ w.heap.size) : OwnE base w' v' (P.map (·.1) ++ [x]) :=
  OwnE.snoc (p := (x, u)) (RowE.on hr ((Q.refl w).alloc _)) (fun q hq => ⟨(hf q hq).1, (hf q hq).2.on ((Q.refl w).alloc _) hs⟩) hq (ax.on ((Q.refl w).alloc _) hs) h1 h2 (by simp; omega)

set_option maxHeartbeats 1000000 in
theorem rputE_arg (l : List Ent) (key : ByteArray) (m : List Ver) (v vc : Value) (w : World) (hno : ¬ (okI l ∧ hasO 1 60 ko key = true ∧ okP m)) (hs : Small l) (hk : key.size ≤ 1000) (hm : m.length ≤ 1000) (ht : Ents w w.heap.size v l) (hc : Vers w w.heap.size vc m) :
    Calls Try.prog 13 #[v, .string key, vc] w fun e w' => e = .returned (.tuple #[.slice none 0 0, .int .i64 1]) ∧ Q w w' := by
  obtain ⟨R, hR⟩ := chkI_ex l
  obtain ⟨C, hC⟩ := chkP_ex m
  have M := Lib.hid (rmayE_any l v w R hR hs ht)
  have K := Lib.hid fun d => rkey_any key d hk
  have CK : Hid (∀ d, Q w d → Calls Try.prog 35 #[vc] d fun e w' => e = .returned (.bool C) ∧ Q d w') := Lib.hid (fun d q => rcheck_any m vc d C hC hm (hc.on q))
  obtain ⟨A, c, rfl⟩ := ht.form
  obtain ⟨Ac, cc, rfl⟩ := hc.form
  rcases hR with ⟨rfl, o1⟩ | ⟨rfl, o1⟩
  · cases hk1 : hasO 1 60 ko key with
    | true =>
      rw [hk1] at K
      rcases hC with ⟨rfl, o2⟩ | ⟨rfl, o2⟩
      · exact absurd ⟨o1, hk1, o2⟩ hno
      · clear hno o1 o2 hk1 ht hc
        go_enter Try.func13, Try.ntmps13
        go_wp2_with fail
        refine (M.out).mono ?_
        rintro e w1 ⟨rfl, q1⟩
        go_wp2_with fail
        refine (K.out _).mono ?_
        rintro e w2 ⟨rfl, rfl⟩
        go_wp2_with fail
        refine (CK.out _ q1).mono ?_
        rintro e w3 ⟨rfl, q3⟩
        go_wp2
        go_ret2
        exact ⟨rfl, q1.trans q3⟩
    | false =>
      rw [hk1] at K
      clear hno o1 hk1 ht hc
      go_enter Try.func13, Try.ntmps13
      go_wp2_with fail
      refine (M.out).mono ?_
      rintro e w1 ⟨rfl, q1⟩
      go_wp2_with fail
      refine (K.out _).mono ?_
      rintro e w2 ⟨rfl, rfl⟩
      go_wp2
      go_ret2
      exact ⟨rfl, q1⟩
  · clear hno o1 ht hc
    go_enter Try.func13, Try.ntmps13
    go_wp2_with fail
    refine (M.out).mono ?_
    rintro e w1 ⟨rfl, q1⟩
    go_wp2
    go_ret2
    exact ⟨rfl, q1⟩
set_option maxHeartbeats 8000000 in
set_option maxRecDepth 100000 in
theorem rputE_laid (l : List Ent) (key : ByteArray) (m : List Ver) (v vc : Value) (w : World) (o1 : okI l) (o2 : hasO 1 60 ko key = true) (o3 : okP m) (hs : Small l) (hk : key.size ≤ 1000) (hm : m.length ≤ 1000) (ht : Ents w w.heap.size v l) (hc : Vers w w.heap.size vc m) :
    Calls Try.prog 13 #[v, .string key, vc] w fun e w' => ∃ v' L k, e = .returned (.tuple #[v', .int .i64 (k : Nat)]) ∧ ((60 < (putE l key m).length ∧ L = [] ∧ k = 6) ∨ ((putE l key m).length ≤ 60 ∧ L = putE l key m ∧ k = 0)) ∧ Ents w' w'.heap.size v' L ∧ Q w w' := by
  have M := Lib.hid (rmayE_any l v w true (.inl ⟨rfl, o1⟩) hs ht)
  have K := Lib.hid fun d => rkey_any key d hk
  rw [o2] at K
  have CK : Hid (∀ d, Q w d → Calls Try.prog 35 #[vc] d fun e w' => e = .returned (.bool true) ∧ Q d w') := Lib.hid (fun d q => rcheck_any m vc d true (.inl ⟨rfl, o3⟩) hm (hc.on q))
  have HT := Lib.hid ht
  have HS := Lib.hid hs
  have HO := Lib.hid ht.okVs
  have hmv := hc.okAll'
  have hl := hs.1
  obtain ⟨A, c, rfl⟩ := ht.form
  obtain ⟨Ac, cc, rfl⟩ := hc.form
  obtain ⟨N, hN⟩ : ∃ N, m.length = N := ⟨_, rfl⟩
  rw [hN] at hc CK hm ⊢
  have HC := Lib.hid hc
  have HM := Lib.hid hN
  obtain ⟨i0, hi, hz0, hz1, hz2⟩ := info_parts info_ent
  clear o1 o2 o3 ht hc hs
  go_enter Try.func13, Try.ntmps13
  go_wp2_with fail
  refine (M.out).mono ?_
  rintro e w1 ⟨rfl, q1⟩
  go_wp2_with fail
  refine (K.out _).mono ?_
  rintro e w2 ⟨rfl, rfl⟩
  go_wp2_with fail
  refine (CK.out _ q1).mono ?_
  rintro e w3 ⟨rfl, qq⟩
  have q3 := q1.trans qq
  clear q1 qq M K CK
  go_wp2_with fail
  go_loopw [8, 9] (fun O I wr => ∃ i : Nat, i ≤ l.length ∧ I = .int .i64 i ∧ OwnE w.heap.size wr O ([] ++ (l.take i).filter (fun e => ltB e.key key)) ∧ Q w wr) (fun _ I _ => l.length - (intOf I).toNat)
  case atStart => exact ⟨0, Nat.zero_le _, rfl, OwnE.nil _ _, q3⟩
  case round =>
    obtain ⟨i, hil, rfl, hown, q⟩ := hrel
    by_cases hlt : i < l.length
    · obtain ⟨a, c', hv, ha, A2, c2, hvs, hat⟩ := HT.out.pick i hlt
      injection hv with e1 e2 e3
      subst e1 e3
      have hok := HS.out.2 _ (List.getElem_mem hlt)
      have hov := HO.out _ (List.getElem_mem hlt)
      have hilt : (i : Int) < (l.length : Int) := by omega
      have HF := filt_take l i hlt (fun e => ltB e.key key)
      obtain ⟨d0, d1⟩ := hat _ q
      obtain ⟨x, hx⟩ : ∃ x, x = l[i] := ⟨_, rfl⟩
      rw [← hx] at d0 d1 hvs hok HF hov
      clear hx hat
      cases hb : ltB x.key key with
      | true =>
        have HW := Lib.hid (HF.1 hb)
        clear HF
        skip
        unfold ltB at hb
        have AX : Apt w.heap.size wr (.slice A2 x.L.length c2) x.L := ⟨hov, by unfold maxLen; omega, .inl (hvs.below q)⟩
        obtain ⟨P, hP, hr, hf⟩ := hown
        have hPl : P.length ≤ 3000 := by rw [← List.length_map (f := (·.1)), hP, List.length_append]; have k1 := filt_le l i (fun e => ltB e.key key); have k2 : ([] : List Ent).length ≤ 1001 := (by first | assumption | simp); omega
        have hs := q.size
        have hq : x.key.size ≤ maxLen := by unfold maxLen; omega
        go_wp2_with (first | (at_builtin; refine wpList_append_own _ rfl _ _ 22 rfl w.heap.size 48 i0 (.agg #[.string ⟨#[]⟩, .slice none 0 0]) 2 40 Try.underlying22 hi hz0 hz1 hz2 rfl (by decide) _ _ _ rfl (World.ownsRow.alloc hr _) ⟨wr.heap.size, 0, none⟩ 1 1 (pcells (x, (.slice A2 x.L.length c2))) rfl rfl (cells_oneP wr (x, (.slice A2 x.L.length c2)) _) (pcells_one ⟨_, _, _, rfl⟩) (by unfold maxLen; omega) (by omega) (by simp; omega) ?_; intro v1 w1 h1 h2 _; have r1 := ownE_step (x := x) hr hf hq AX h1 h2 hs; have b1 : Q w w1 := rowE_grown (q.alloc _) (by simp; omega) (RowE.on hr ((Q.refl wr).alloc _)) h2; rw [hP] at r1; clear h1 h2))
        rw [List.append_assoc, ← HW.out] at r1
        go_roundw
        case rel => exact ⟨i + 1, by omega, by go_num, r1, b1⟩
        case measure => simp [intOf]; omega
      | false =>
        have HW := Lib.hid (HF.2 hb)
        clear HF
        skip
        unfold ltB at hb
        clear d1 hvs
        go_wp2_with fail
        go_roundw
        case rel => exact ⟨i + 1, by omega, by go_num, by rw [HW.out]; exact hown, q⟩
        case measure => simp [intOf]; omega
    · have h2 : ¬ (i : Int) < (l.length : Int) := by omega
      rw [List.take_of_length_le (by omega)] at hown
      clear q3
      by_cases hn0 : N = 0
      · have hcn : ¬ (0 : Int) < (N : Int) := by omega
        obtain ⟨PR, hPR⟩ : ∃ PR, PR = [] ++ l.filter (fun e => ltB e.key key) := ⟨_, rfl⟩
        have HPR : Hid (PR ++ l.filter (fun e => ltB key e.key) = putE l key m) := Lib.hid (by rw [hPR, putE, if_pos (List.length_eq_zero_iff.1 (by omega))]; simp)
        have hPL : PR.length ≤ 1001 := by rw [hPR]; have := List.length_filter_le (fun e : Ent => ltB e.key key) l; simp; omega
        have hpre : OwnE w.heap.size wr u8 PR := by rw [hPR]; exact hown
        have qp := q
        clear q hPR hown hN
        go_wp2_with fail
        go_loopw [8, 10] (fun O I wr => ∃ i : Nat, i ≤ l.length ∧ I = .int .i64 i ∧ OwnE w.heap.size wr O (PR ++ (l.take i).filter (fun e => ltB key e.key)) ∧ Q w wr) (fun _ I _ => l.length - (intOf I).toNat)
        case atStart => exact ⟨0, Nat.zero_le _, rfl, by simpa using hpre, qp⟩
        case round =>
          obtain ⟨i, hil, rfl, hown, q⟩ := hrel
          by_cases hlt : i < l.length
          · obtain ⟨a, c', hv, ha, A2, c2, hvs, hat⟩ := HT.out.pick i hlt
            injection hv with e1 e2 e3
            subst e1 e3
            have hok := HS.out.2 _ (List.getElem_mem hlt)
            have hov := HO.out _ (List.getElem_mem hlt)
            have hilt : (i : Int) < (l.length : Int) := by omega
            have HF := filt_take l i hlt (fun e => ltB key e.key)
            obtain ⟨d0, d1⟩ := hat _ q
            obtain ⟨x, hx⟩ : ∃ x, x = l[i] := ⟨_, rfl⟩
            rw [← hx] at d0 d1 hvs hok HF hov
            clear hx hat
            cases hb : ltB key x.key with
            | true =>
              have HW := Lib.hid (HF.1 hb)
              clear HF
              have hg := (gtr_form x.key key).trans hb
              have h3 : (Op.bytesLess x.key.toList key.toList || x.key.toList == key.toList) = false := by simpa using hg
              unfold ltB at hb
              have AX : Apt w.heap.size wr (.slice A2 x.L.length c2) x.L := ⟨hov, by unfold maxLen; omega, .inl (hvs.below q)⟩
              obtain ⟨P, hP, hr, hf⟩ := hown
              have hPl : P.length ≤ 3000 := by rw [← List.length_map (f := (·.1)), hP, List.length_append]; have k1 := filt_le l i (fun e => ltB key e.key); have k2 : (PR : List Ent).length ≤ 1001 := (by first | assumption | simp); omega
              have hs := q.size
              have hq : x.key.size ≤ maxLen := by unfold maxLen; omega
              go_wp2_with (first | (at_builtin; refine wpList_append_own _ rfl _ _ 22 rfl w.heap.size 48 i0 (.agg #[.string ⟨#[]⟩, .slice none 0 0]) 2 40 Try.underlying22 hi hz0 hz1 hz2 rfl (by decide) _ _ _ rfl (World.ownsRow.alloc hr _) ⟨wr.heap.size, 0, none⟩ 1 1 (pcells (x, (.slice A2 x.L.length c2))) rfl rfl (cells_oneP wr (x, (.slice A2 x.L.length c2)) _) (pcells_one ⟨_, _, _, rfl⟩) (by unfold maxLen; omega) (by omega) (by simp; omega) ?_; intro v1 w1 h1 h2 _; have r1 := ownE_step (x := x) hr hf hq AX h1 h2 hs; have b1 : Q w w1 := rowE_grown (q.alloc _) (by simp; omega) (RowE.on hr ((Q.refl wr).alloc _)) h2; rw [hP] at r1; clear h1 h2))
              rw [List.append_assoc, ← HW.out] at r1
              go_roundw
              case rel => exact ⟨i + 1, by omega, by go_num, r1, b1⟩
              case measure => simp [intOf]; omega
            | false =>
              have HW := Lib.hid (HF.2 hb)
              clear HF
              have hg := (gtr_form x.key key).trans hb
              have h3 : (Op.bytesLess x.key.toList key.toList || x.key.toList == key.toList) = true := by revert hg; cases (Op.bytesLess x.key.toList key.toList || x.key.toList == key.toList) <;> simp
              unfold ltB at hb
              clear d1 hvs
              go_wp2_with fail
              go_roundw
              case rel => exact ⟨i + 1, by omega, by go_num, by rw [HW.out]; exact hown, q⟩
              case measure => simp [intOf]; omega
          · have h2 : ¬ (i : Int) < (l.length : Int) := by omega
            rw [List.take_of_length_le (by omega)] at hown
            obtain ⟨A9, c9, rfl⟩ := hown.len
            have HW := Lib.hid hown
            obtain ⟨n, hn⟩ : ∃ n, (PR ++ l.filter (fun e => ltB key e.key)).length = n := ⟨_, rfl⟩
            have HN := Lib.hid hn
            rw [hn]
            clear hown hn
            by_cases h60 : n ≤ 60
            · have h60' : ¬ (60 : Int) < (n : Int) := by omega
              go_wp2
              go_ret2
              refine ⟨_, putE l key m, _, rfl, .inr ⟨?_, rfl, rfl⟩, ?_, q⟩
              · rw [← HPR.out, HN.out]; exact h60
              · rw [← HPR.out]; rw [← HN.out]; exact HW.out.ents q.size
            · have h60' : (60 : Int) < (n : Int) := by omega
              go_wp2
              go_ret2
              refine ⟨_, _, _, rfl, .inl ⟨?_, rfl, rfl⟩, Ents.nil _ _, q⟩
              rw [← HPR.out, HN.out]; first | assumption | omega
      · skip
        have hcn : (0 : Int) < (N : Int) := by omega
        have AX : Apt w.heap.size wr (.slice Ac N cc) m := ⟨hmv, by have := HM.out; unfold maxLen; omega, .inl (HC.out.below q)⟩
        obtain ⟨P, hP, hr, hf⟩ := hown
        have hPl : P.length ≤ 1000 := by rw [← List.length_map (f := (·.1)), hP]; have := List.length_filter_le (fun e : Ent => ltB e.key key) l; simp; omega
        have hs := q.size
        have hq : (⟨key, m⟩ : Ent).key.size ≤ maxLen := by show key.size ≤ _; unfold maxLen; omega
        go_wp2_with (first | (at_builtin; refine wpList_append_own _ rfl _ _ 22 rfl w.heap.size 48 i0 (.agg #[.string ⟨#[]⟩, .slice none 0 0]) 2 40 Try.underlying22 hi hz0 hz1 hz2 rfl (by decide) _ _ _ rfl (World.ownsRow.alloc hr _) ⟨wr.heap.size, 0, none⟩ 1 1 (pcells ((⟨key, m⟩ : Ent), (.slice Ac N cc))) rfl rfl (cells_oneP wr ((⟨key, m⟩ : Ent), (.slice Ac N cc)) _) (pcells_one ⟨_, _, _, rfl⟩) (by unfold maxLen; omega) (by omega) (by simp; omega) ?_; intro v1 w1 h1 h2 _; have r1 := ownE_step (x := (⟨key, m⟩ : Ent)) hr hf hq AX h1 h2 hs; have b1 : Q w w1 := rowE_grown (q.alloc _) (by simp; omega) (RowE.on hr ((Q.refl wr).alloc _)) h2; rw [hP] at r1; clear h1 h2))
        obtain ⟨PR, hPR⟩ : ∃ PR, PR = [] ++ l.filter (fun e => ltB e.key key) ++ [(⟨key, m⟩ : Ent)] := ⟨_, rfl⟩
        have HPR : Hid (PR ++ l.filter (fun e => ltB key e.key) = putE l key m) := Lib.hid (by rw [hPR, putE, if_neg (by intro e; rw [e] at hN; simp at hN; omega)]; simp)
        have hPL : PR.length ≤ 1001 := by rw [hPR]; have := List.length_filter_le (fun e : Ent => ltB e.key key) l; simp; omega
        have hpre : OwnE w.heap.size w1 v1 PR := by rw [hPR]; exact r1
        have qp := b1
        clear q hPR r1 b1 hr hf hP
        go_wp2_with fail
        go_loopw [8, 10] (fun O I wr => ∃ i : Nat, i ≤ l.length ∧ I = .int .i64 i ∧ OwnE w.heap.size wr O (PR ++ (l.take i).filter (fun e => ltB key e.key)) ∧ Q w wr) (fun _ I _ => l.length - (intOf I).toNat)
        case atStart => exact ⟨0, Nat.zero_le _, rfl, by simpa using hpre, qp⟩
        case round =>
          obtain ⟨i, hil, rfl, hown, q⟩ := hrel
          by_cases hlt : i < l.length
          · obtain ⟨a, c', hv, ha, A2, c2, hvs, hat⟩ := HT.out.pick i hlt
            injection hv with e1 e2 e3
            subst e1 e3
            have hok := HS.out.2 _ (List.getElem_mem hlt)
            have hov := HO.out _ (List.getElem_mem hlt)
            have hilt : (i : Int) < (l.length : Int) := by omega
            have HF := filt_take l i hlt (fun e => ltB key e.key)
            obtain ⟨d0, d1⟩ := hat _ q
            obtain ⟨x, hx⟩ : ∃ x, x = l[i] := ⟨_, rfl⟩
            rw [← hx] at d0 d1 hvs hok HF hov
            clear hx hat
            cases hb : ltB key x.key with
            | true =>
              have HW := Lib.hid (HF.1 hb)
              clear HF
              have hg := (gtr_form x.key key).trans hb
              have h3 : (Op.bytesLess x.key.toList key.toList || x.key.toList == key.toList) = false := by simpa using hg
              unfold ltB at hb
              have AX : Apt w.heap.size wr (.slice A2 x.L.length c2) x.L := ⟨hov, by unfold maxLen; omega, .inl (hvs.below q)⟩
              obtain ⟨P, hP, hr, hf⟩ := hown
              have hPl : P.length ≤ 3000 := by rw [← List.length_map (f := (·.1)), hP, List.length_append]; have k1 := filt_le l i (fun e => ltB key e.key); have k2 : (PR : List Ent).length ≤ 1001 := (by first | assumption | simp); omega
              have hs := q.size
              have hq : x.key.size ≤ maxLen := by unfold maxLen; omega
              go_wp2_with (first | (at_builtin; refine wpList_append_own _ rfl _ _ 22 rfl w.heap.size 48 i0 (.agg #[.string ⟨#[]⟩, .slice none 0 0]) 2 40 Try.underlying22 hi hz0 hz1 hz2 rfl (by decide) _ _ _ rfl (World.ownsRow.alloc hr _) ⟨wr.heap.size, 0, none⟩ 1 1 (pcells (x, (.slice A2 x.L.length c2))) rfl rfl (cells_oneP wr (x, (.slice A2 x.L.length c2)) _) (pcells_one ⟨_, _, _, rfl⟩) (by unfold maxLen; omega) (by omega) (by simp; omega) ?_; intro v1 w1 h1 h2 _; have r1 := ownE_step (x := x) hr hf hq AX h1 h2 hs; have b1 : Q w w1 := rowE_grown (q.alloc _) (by simp; omega) (RowE.on hr ((Q.refl wr).alloc _)) h2; rw [hP] at r1; clear h1 h2))
              rw [List.append_assoc, ← HW.out] at r1
              go_roundw
              case rel => exact ⟨i + 1, by omega, by go_num, r1, b1⟩
              case measure => simp [intOf]; omega
            | false =>
              have HW := Lib.hid (HF.2 hb)
              clear HF
              have hg := (gtr_form x.key key).trans hb
              have h3 : (Op.bytesLess x.key.toList key.toList || x.key.toList == key.toList) = true := by revert hg; cases (Op.bytesLess x.key.toList key.toList || x.key.toList == key.toList) <;> simp
              unfold ltB at hb
              clear d1 hvs
              go_wp2_with fail
              go_roundw
              case rel => exact ⟨i + 1, by omega, by go_num, by rw [HW.out]; exact hown, q⟩
              case measure => simp [intOf]; omega
          · have h2 : ¬ (i : Int) < (l.length : Int) := by omega
            rw [List.take_of_length_le (by omega)] at hown
            obtain ⟨A9, c9, rfl⟩ := hown.len
            have HW := Lib.hid hown
            obtain ⟨n, hn⟩ : ∃ n, (PR ++ l.filter (fun e => ltB key e.key)).length = n := ⟨_, rfl⟩
            have HN := Lib.hid hn
            rw [hn]
            clear hown hn
            by_cases h60 : n ≤ 60
            · have h60' : ¬ (60 : Int) < (n : Int) := by omega
              go_wp2
              go_ret2
              refine ⟨_, putE l key m, _, rfl, .inr ⟨?_, rfl, rfl⟩, ?_, q⟩
              · rw [← HPR.out, HN.out]; exact h60
              · rw [← HPR.out]; rw [← HN.out]; exact HW.out.ents q.size
            · have h60' : (60 : Int) < (n : Int) := by omega
              go_wp2
              go_ret2
              refine ⟨_, _, _, rfl, .inl ⟨?_, rfl, rfl⟩, Ents.nil _ _, q⟩
              rw [← HPR.out, HN.out]; first | assumption | omega

end Go.Proofs.Yteggmlefekpkfaa
