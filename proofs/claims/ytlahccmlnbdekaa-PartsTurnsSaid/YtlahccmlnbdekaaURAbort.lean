/-
  Contract of the document's Abort.
-/
import Derived.Test.YtlahccmlnbdekaaUDel
namespace Go.Proofs.Ytlahccmlnbdekaa
open Go.ChangeShapes Go.WideShapes Go.ChangeAt Go.RowKit
set_option linter.unusedVariables false
set_option linter.unusedSimpArgs false
set_option maxRecDepth 100000

theorem abort_find {l : List Upl} {id : Nat} {r : List Upl} {e : Nat} (h : AbortC l id r e) : ∃ x, FindC l id x e := by
  cases h with
  | arg h => exact ⟨_, .arg h⟩
  | none h k => exact ⟨_, .none h k⟩
  | yes i hi h k m => exact ⟨_, .yes i hi h k m⟩
theorem abort_nil {l : List Upl} {id : Nat} {r : List Upl} {e : Nat} (h : AbortC l id r e) (k : e ≠ 0) : r = [] := by
  cases h with
  | arg h => rfl
  | none h _ => rfl
  | yes i hi h _ _ => exact absurd rfl k
theorem abort_rm {l : List Upl} {id : Nat} {r : List Upl} {e : Nat} (h : AbortC l id r e) (k : e = 0) : r = rmU l id := by
  cases h with
  | arg h => cases k
  | none h _ => cases k
  | yes i hi h _ _ => rfl
/-- One of a slice that is read, ready to be appended to a row of the call's own. -/
theorem Upls.one {w d : World} {v : Value} {l : List Upl} (h : Upls w w.heap.size v l) (q : Q w d) (i : Nat) (hi : i < l.length) {A2 : Option Addr} {c2 : Nat} (hp : Prts w w.heap.size (.slice A2 l[i].L.length c2) l[i].L) : OwnU1 w.heap.size d (l[i], .slice A2 l[i].L.length c2) :=
  ⟨h.okAll _ (List.getElem_mem hi), hp.okAll, (h.okAll _ (List.getElem_mem hi)).2.2, .inl (hp.below q)⟩
set_option maxHeartbeats 4000000 in
theorem rabortU_any (l : List Upl) (v : Value) (id : Nat) (w : World) (r : List Upl) (e : Nat) (h : AbortC l id r e) (hs : smL l) (ht : Upls w w.heap.size v l) :
    Calls Try.prog 15 #[v, .int .u64 (id : Nat)] w fun x w' => ∃ u, x = .returned (.tuple #[u, .int .i64 (e : Nat)]) ∧ Upls w' w'.heap.size u r ∧ Q w w' := by
  have HT := Lib.hid ht
  have hl := hs.1
  obtain ⟨x, hx⟩ := abort_find h
  have F := Lib.hid (rfindU_any l v id w x e hx hs ht)
  simp only [upl] at F
  by_cases he : e = 0
  · have HV := Lib.hid (abort_rm h he)
    subst he
    obtain ⟨A, c, rfl⟩ := ht.form
    clear ht hs h hx
    go_enter Try.func15, Try.ntmps15
    go_wp2_with fail
    refine (F.out).mono ?_
    rintro e w1 ⟨u, rfl, hu, q1⟩
    obtain ⟨A1, c1, rfl⟩ := hu.form
    have q2 := q1.alloc (.cells #[.int .u64 (x.id : Nat), .string x.key, .slice A1 x.L.length c1] 40)
    clear hu q1
    go_wp2_with fail
    go_loopw [8, 9] (fun O I wr => ∃ i : Nat, i ≤ l.length ∧ I = .int .i64 i ∧ OwnU w.heap.size wr O (rmU (l.take i) id) ∧ Q w wr) (fun _ I _ => l.length - (intOf I).toNat)
    case atStart => exact ⟨0, Nat.zero_le _, rfl, OwnU.nil _ _, q2⟩
    case round =>
      obtain ⟨i, hil, rfl, hown, q⟩ := hrel
      clear q2
      by_cases hlt : i < l.length
      · obtain ⟨a, c', hv, ha, A2, c2, hps, hat⟩ := HT.out.pick i hlt
        injection hv with e1 e2 e3
        subst e1 e3
        obtain ⟨d0, d1, d2⟩ := hat _ q
        have hilt : (i : Int) < (l.length : Int) := by omega
        by_cases hid : l[i].id = id
        · have HW := Lib.hid (rmU_no hlt hid)
          obtain ⟨y, hy⟩ : ∃ y, y = l[i] := ⟨_, rfl⟩
          rw [← hy] at d0 d1 d2 hid
          have hne : ((y.id : Int) != (id : Int)) = false := by simp [hid]
          clear hy hat hps hid e2
          go_wp2_with fail
          go_roundw
          case rel => exact ⟨i + 1, by omega, by go_num, by rw [HW.out]; exact hown, q⟩
          case measure => simp [intOf]; omega
        · have HW := Lib.hid (rmU_yes hlt hid)
          have hlen : (rmU (l.take i) id).length ≤ 1000 := by have := rmU_length (l.take i) id; rw [List.length_take] at this; omega
          have q3 := (Q.refl wr).alloc (.cells #[.int .u64 (l[i].id : Nat), .string l[i].key, .slice A2 l[i].L.length c2] 40)
          have o1 := Lib.hid (HT.out.one (q.trans q3) i hlt hps)
          have hs := q.size
          have h0 := hown.on q3 hs
          obtain ⟨y, hy⟩ : ∃ y, y = l[i] := ⟨_, rfl⟩
          rw [← hy] at d0 d1 d2 hid HW o1 h0 q3
          have hne : ((y.id : Int) != (id : Int)) = true := by
            have : ¬ ((y.id : Int) = (id : Int)) := by omega
            simpa using this
          clear hy hat hps hid e2
          go_wp2_with (at_builtin; refine wpList_snoc_upl _ rfl _ _ 22 Try.underlying22 rfl w.heap.size wr.heap.size _ _ (y, .slice A2 y.L.length c2) rfl rfl (cells_oneupl wr (y, .slice A2 y.L.length c2) 40) h0 o1.out ?hb ?hl ?_; (case hb => simp; omega); (case hl => omega); intro v5 w5 o5 g5; have q5 : Q w w5 := Below.trans (Q.trans q q3) g5)
          go_roundw
          case rel => exact ⟨i + 1, by omega, by go_num, by rw [HW.out]; exact o5, q5⟩
          case measure => simp [intOf]; omega
      · obtain rfl : i = l.length := by omega
        rw [List.take_length] at hown
        go_wp2
        go_ret2
        exact ⟨_, rfl, by rw [HV.out]; exact hown.read q.size, q⟩
  · have HV := Lib.hid (abort_nil h he)
    have hne : ((e : Int) != 0) = true := by
      have : ¬ (e : Int) = 0 := by omega
      simpa using this
    obtain ⟨A, c, rfl⟩ := ht.form
    clear ht hs h hx he
    go_enter Try.func15, Try.ntmps15
    go_wp2_with fail
    refine (F.out).mono ?_
    rintro e w1 ⟨u, rfl, hu, q1⟩
    obtain ⟨A1, c1, rfl⟩ := hu.form
    have q2 := q1.alloc (.cells #[.int .u64 (x.id : Nat), .string x.key, .slice A1 x.L.length c1] 40)
    go_wp2
    go_ret2
    exact ⟨_, rfl, by rw [HV.out]; exact Upls.nil _ _, q2⟩
end Go.Proofs.Ytlahccmlnbdekaa
