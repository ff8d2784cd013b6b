/-
  Contracts of the program's May, goneNum and texts, and of the document's May of notes. Contract of the program's texts of a note. A row of texts behind a row of texts. Contract of the program's Lay of notes. Contract of the program's noteOf. TakeList and Whole once more: with the room of what they lay. Contract of the program's Take of notes. The statements' awake of layer 12. What the laws of notes share.
-/
import Derived.Test.YthlbpjopkaninaaNg
import Derived.Test.YthlbpjopkaninaaNb
import Derived.Test.YthlbpjopkaninaaNa
import Derived.Laws.ResultCell
import Derived.Test.YthlbpjopkaninaaNe
import Derived.Test.YthlbpjopkaninaaNf
namespace Go.Proofs.Ythlbpjopkaninaa
set_option maxRecDepth 100000
open Go.ChangeShapes Go.WideShapes Go.ChangeAt Go.RowKit
set_option linter.unusedVariables false
set_option linter.unusedSimpArgs false
set_option maxRecDepth 100000
set_option maxHeartbeats 4000000 in
theorem may_any (x : Nte) (w : World) :
    Calls Try.prog 17 #[nte x] w fun e w' => e = .returned (.bool (okNt x)) ∧ Q w w' := by
  have HF := Lib.hid (show okNt x = (decide (0 < x.st) && (decide (0 < x.n.size) && (decide (x.n.size ≤ 200) && (decide (x.val.size ≤ 4000) && (!x.gone || decide (x.val.size = 0)))))) from rfl)
  have HQ := Lib.hid (fun o => (Q.refl w).alloc o)
  have HQ2 := Lib.hid (fun o o' => ((Q.refl w).alloc o).alloc o')
  obtain ⟨st, n, v, g⟩ := x
  rw [nte]
  simp only at HF ⊢
  by_cases h1 : 0 < st
  · have j1 : ¬ (st : Int) = 0 := by omega
    have j1b : (0 : Int) < (st : Int) := by omega
    by_cases h2 : 0 < n.size
    · have j2 : ¬ n.toList = [] := not_nil (by omega)
      have j2a : n.toList.isEmpty = false := by simp [j2]
      have j2b : (1 : Int) ≤ (n.size : Int) := by omega
      by_cases h3 : n.size ≤ 200
      · have j3 : ¬ (200 : Int) < (n.size : Int) := by omega
        have j3b : (n.size : Int) ≤ 200 := by omega
        cases g with
        | true =>
          by_cases h4 : v.size = 0
          · have j4 := nil_of h4
            have j4a : v.toList.isEmpty = true := by simp [j4]
            have j4b : (v.size : Int) ≤ 4000 := by omega
            have HV : Hid (okNt ⟨st, n, v, true⟩ = true) := Lib.hid (by rw [HF.out]; simp [*] <;> omega)
            clear HF
            go_enter Try.func17, Try.ntmps17
            go_wp2_with fail
            go_ret
            exact ⟨ret_bool (by rw [HV.out]), by first | exact HQ.out _ | exact HQ2.out _ _⟩
          · have j4 := not_nil h4
            have j4a : v.toList.isEmpty = false := by simp [j4]
            by_cases h5 : v.size ≤ 4000
            · have j5 : (v.size : Int) ≤ 4000 := by omega
              have HV : Hid (okNt ⟨st, n, v, true⟩ = false) := Lib.hid (by rw [HF.out]; simp [*] <;> omega)
              clear HF
              go_enter Try.func17, Try.ntmps17
              go_wp2_with fail
              go_ret
              exact ⟨ret_bool (by rw [HV.out]), by first | exact HQ.out _ | exact HQ2.out _ _⟩
            · have j5 : ¬ (v.size : Int) ≤ 4000 := by omega
              have HV : Hid (okNt ⟨st, n, v, true⟩ = false) := Lib.hid (by rw [HF.out]; simp [*] <;> omega)
              clear HF
              go_enter Try.func17, Try.ntmps17
              go_wp2_with fail
              go_ret
              exact ⟨ret_bool (by rw [HV.out]), by first | exact HQ.out _ | exact HQ2.out _ _⟩
        | false =>
          by_cases h5 : v.size ≤ 4000
          · have j5 : (v.size : Int) ≤ 4000 := by omega
            have HV : Hid (okNt ⟨st, n, v, false⟩ = true) := Lib.hid (by rw [HF.out]; simp [*] <;> omega)
            clear HF
            go_enter Try.func17, Try.ntmps17
            go_wp2_with fail
            go_ret
            exact ⟨ret_bool (by rw [HV.out]), by first | exact HQ.out _ | exact HQ2.out _ _⟩
          · have j5 : ¬ (v.size : Int) ≤ 4000 := by omega
            have HV : Hid (okNt ⟨st, n, v, false⟩ = false) := Lib.hid (by rw [HF.out]; simp [*] <;> omega)
            clear HF
            go_enter Try.func17, Try.ntmps17
            go_wp2_with fail
            go_ret
            exact ⟨ret_bool (by rw [HV.out]), by first | exact HQ.out _ | exact HQ2.out _ _⟩
      · have j3 : (200 : Int) < (n.size : Int) := by omega
        have j3b : ¬ (n.size : Int) ≤ 200 := by omega
        have HV : Hid (okNt ⟨st, n, v, g⟩ = false) := Lib.hid (by rw [HF.out]; simp [*] <;> omega)
        clear HF
        go_enter Try.func17, Try.ntmps17
        go_wp2_with fail
        go_ret
        exact ⟨ret_bool (by rw [HV.out]), by first | exact HQ.out _ | exact HQ2.out _ _⟩
    · have j2 := nil_of (show n.size = 0 by omega)
      have j2a : n.toList.isEmpty = true := by simp [j2]
      have j2b : ¬ (1 : Int) ≤ (n.size : Int) := by omega
      have HV : Hid (okNt ⟨st, n, v, g⟩ = false) := Lib.hid (by rw [HF.out]; simp [*] <;> omega)
      clear HF
      go_enter Try.func17, Try.ntmps17
      go_wp2_with fail
      go_ret
      exact ⟨ret_bool (by rw [HV.out]), by first | exact HQ.out _ | exact HQ2.out _ _⟩
  · have j1 : (st : Int) = 0 := by omega
    have j1b : ¬ (0 : Int) < (st : Int) := by omega
    have HV : Hid (okNt ⟨st, n, v, g⟩ = false) := Lib.hid (by rw [HF.out]; simp [*] <;> omega)
    clear HF
    go_enter Try.func17, Try.ntmps17
    go_wp2_with fail
    go_ret
    exact ⟨ret_bool (by rw [HV.out]), by first | exact HQ.out _ | exact HQ2.out _ _⟩
set_option maxHeartbeats 4000000 in
theorem rmayN_any (x : Nte) (w : World) :
    Calls Try.prog 18 #[nte x] w fun e w' => e = .returned (.bool (okNt x)) ∧ Q w w' := by
  have HF := Lib.hid (show okNt x = (decide (0 < x.st) && (decide (0 < x.n.size) && (decide (x.n.size ≤ 200) && (decide (x.val.size ≤ 4000) && (!x.gone || decide (x.val.size = 0)))))) from rfl)
  have HQ := Lib.hid (fun o => (Q.refl w).alloc o)
  have HQ2 := Lib.hid (fun o o' => ((Q.refl w).alloc o).alloc o')
  obtain ⟨st, n, v, g⟩ := x
  rw [nte]
  simp only at HF ⊢
  by_cases h1 : 0 < st
  · have j1 : ¬ (st : Int) = 0 := by omega
    have j1b : (0 : Int) < (st : Int) := by omega
    by_cases h2 : 0 < n.size
    · have j2 : ¬ n.toList = [] := not_nil (by omega)
      have j2a : n.toList.isEmpty = false := by simp [j2]
      have j2b : (1 : Int) ≤ (n.size : Int) := by omega
      by_cases h3 : n.size ≤ 200
      · have j3 : ¬ (200 : Int) < (n.size : Int) := by omega
        have j3b : (n.size : Int) ≤ 200 := by omega
        cases g with
        | true =>
          by_cases h4 : v.size = 0
          · have j4 := nil_of h4
            have j4a : v.toList.isEmpty = true := by simp [j4]
            have j4b : (v.size : Int) ≤ 4000 := by omega
            have HV : Hid (okNt ⟨st, n, v, true⟩ = true) := Lib.hid (by rw [HF.out]; simp [*] <;> omega)
            clear HF
            go_enter Try.func18, Try.ntmps18
            go_wp2_with fail
            go_ret
            exact ⟨ret_bool (by rw [HV.out]), by first | exact HQ.out _ | exact HQ2.out _ _⟩
          · have j4 := not_nil h4
            have j4a : v.toList.isEmpty = false := by simp [j4]
            by_cases h5 : v.size ≤ 4000
            · have j5 : (v.size : Int) ≤ 4000 := by omega
              have HV : Hid (okNt ⟨st, n, v, true⟩ = false) := Lib.hid (by rw [HF.out]; simp [*] <;> omega)
              clear HF
              go_enter Try.func18, Try.ntmps18
              go_wp2_with fail
              go_ret
              exact ⟨ret_bool (by rw [HV.out]), by first | exact HQ.out _ | exact HQ2.out _ _⟩
            · have j5 : ¬ (v.size : Int) ≤ 4000 := by omega
              have HV : Hid (okNt ⟨st, n, v, true⟩ = false) := Lib.hid (by rw [HF.out]; simp [*] <;> omega)
              clear HF
              go_enter Try.func18, Try.ntmps18
              go_wp2_with fail
              go_ret
              exact ⟨ret_bool (by rw [HV.out]), by first | exact HQ.out _ | exact HQ2.out _ _⟩
        | false =>
          by_cases h5 : v.size ≤ 4000
          · have j5 : (v.size : Int) ≤ 4000 := by omega
            have HV : Hid (okNt ⟨st, n, v, false⟩ = true) := Lib.hid (by rw [HF.out]; simp [*] <;> omega)
            clear HF
            go_enter Try.func18, Try.ntmps18
            go_wp2_with fail
            go_ret
            exact ⟨ret_bool (by rw [HV.out]), by first | exact HQ.out _ | exact HQ2.out _ _⟩
          · have j5 : ¬ (v.size : Int) ≤ 4000 := by omega
            have HV : Hid (okNt ⟨st, n, v, false⟩ = false) := Lib.hid (by rw [HF.out]; simp [*] <;> omega)
            clear HF
            go_enter Try.func18, Try.ntmps18
            go_wp2_with fail
            go_ret
            exact ⟨ret_bool (by rw [HV.out]), by first | exact HQ.out _ | exact HQ2.out _ _⟩
      · have j3 : (200 : Int) < (n.size : Int) := by omega
        have j3b : ¬ (n.size : Int) ≤ 200 := by omega
        have HV : Hid (okNt ⟨st, n, v, g⟩ = false) := Lib.hid (by rw [HF.out]; simp [*] <;> omega)
        clear HF
        go_enter Try.func18, Try.ntmps18
        go_wp2_with fail
        go_ret
        exact ⟨ret_bool (by rw [HV.out]), by first | exact HQ.out _ | exact HQ2.out _ _⟩
    · have j2 := nil_of (show n.size = 0 by omega)
      have j2a : n.toList.isEmpty = true := by simp [j2]
      have j2b : ¬ (1 : Int) ≤ (n.size : Int) := by omega
      have HV : Hid (okNt ⟨st, n, v, g⟩ = false) := Lib.hid (by rw [HF.out]; simp [*] <;> omega)
      clear HF
      go_enter Try.func18, Try.ntmps18
      go_wp2_with fail
      go_ret
      exact ⟨ret_bool (by rw [HV.out]), by first | exact HQ.out _ | exact HQ2.out _ _⟩
  · have j1 : (st : Int) = 0 := by omega
    have j1b : ¬ (0 : Int) < (st : Int) := by omega
    have HV : Hid (okNt ⟨st, n, v, g⟩ = false) := Lib.hid (by rw [HF.out]; simp [*] <;> omega)
    clear HF
    go_enter Try.func18, Try.ntmps18
    go_wp2_with fail
    go_ret
    exact ⟨ret_bool (by rw [HV.out]), by first | exact HQ.out _ | exact HQ2.out _ _⟩
theorem goneNum_any (g : Bool) (w : World) :
    Calls Try.prog 48 #[.bool g] w fun e w' => e = .returned (.int .u64 (gN g : Nat)) ∧ w' = w := by
  cases g with
  | true =>
    go_enter Try.func48, Try.ntmps48
    go_wp2
    go_ret
    exact ⟨rfl, rfl⟩
  | false =>
    go_enter Try.func48, Try.ntmps48
    go_wp2
    go_ret
    exact ⟨rfl, rfl⟩
end Go.Proofs.Ythlbpjopkaninaa

namespace Go.Proofs.Ythlbpjopkaninaa
set_option maxRecDepth 100000
open Go.ChangeShapes Go.WideShapes Go.ChangeAt Go.RowKit
set_option linter.unusedVariables false
set_option linter.unusedSimpArgs false
set_option maxRecDepth 100000
theorem four_own (base : Nat) (w : World) (a b c d : ByteArray) (hb : base ≤ w.heap.size) :
    (w.alloc (.cells #[.string a, .string b, .string c, .string d] 9)).ownsRow base 9 1 (.slice (some ⟨w.heap.size, 0, none⟩) 4 4) 4 (([a, b, c, d] : List ByteArray).map Value.string) :=
  ⟨by simp, .inr ⟨w.heap.size, 4, #[.string a, .string b, .string c, .string d], rfl, hb, heap_alloc_new w _, Nat.le_refl _, by unfold maxLen; omega, by simp, by simp⟩⟩
theorem gN_lt (g : Bool) : gN g < 18446744073709551616 := by cases g <;> simp [gN]
set_option maxHeartbeats 8000000 in
theorem texts_any (x : Nte) (w : World) (hx : x.st < 18446744073709551616) :
    Calls Try.prog 32 #[nte x] w fun e w' => ∃ b, e = .returned (.slice (some ⟨b, 0, none⟩) 4 4) ∧ w'.ownsRow w.heap.size 9 1 (.slice (some ⟨b, 0, none⟩) 4 4) 4 ((tN x).map Value.string) ∧ Q w w' := by
  obtain ⟨st, n, v, g⟩ := x
  rw [nte, tN]
  simp only at hx ⊢
  have q0 := (Q.refl w).alloc (.cells #[.int .u64 (st : Nat), .string n, .string v, .bool g] 39)
  have b0 := Bx.new w 39 #[.int .u64 (st : Nat), .string n, .string v, .bool g]
  obtain ⟨wb, hwb⟩ : ∃ z, z = w.alloc (.cells #[.int .u64 (st : Nat), .string n, .string v, .bool g] 39) := ⟨_, rfl⟩
  rw [← hwb] at q0 b0
  have K1 := Lib.hid (fun (x : World) => num_any st x hx)
  have K2 := Lib.hid (fun (x : World) => goneNum_any g x)
  have K3 := Lib.hid (fun (x : World) => num_any (gN g) x (gN_lt g))
  have KS : Hid (∀ y, Q wb y → (fun W => W.cell? ⟨w.heap.size, 0, none⟩ = some (.int .u64 (st : Nat)) ∧ W.cell? ⟨w.heap.size, 1, none⟩ = some (.string n) ∧ W.cell? ⟨w.heap.size, 2, none⟩ = some (.string v) ∧ W.cell? ⟨w.heap.size, 3, none⟩ = some (.bool g)) y) := Lib.hid fun y q => by
    have hb := b0.on q
    exact ⟨by simpa using hb.cell 0, by simpa using hb.cell 1, by simpa using hb.cell 2, by simpa using hb.cell 3⟩
  have Q0 := Lib.hid q0
  have qb := Q.refl wb
  generalize hr1 : mk (oct st 8) = r1 at *
  generalize hr2 : mk (oct (gN g) 8) = r2 at *
  generalize hgn : gN g = m at *
  clear b0 q0 hr1 hr2 hgn
  go_enter Try.func32, Try.ntmps32
  go_upto_region 1 with fail
  rw [← hwb]
  clear hwb
  have q1 := qb.drew
  refine wp_region_held_drew (S := (fun W => W.cell? ⟨w.heap.size, 0, none⟩ = some (.int .u64 (st : Nat)) ∧ W.cell? ⟨w.heap.size, 1, none⟩ = some (.string n) ∧ W.cell? ⟨w.heap.size, 2, none⟩ = some (.string v) ∧ W.cell? ⟨w.heap.size, 3, none⟩ = some (.bool g))) (by kernel_rfl) (KS.out _ q1) (fun hHeld => ?_)
  refine tkV 0 ?_
  refine tkV 1 ?_
  refine tkV 3 ?_
  refine tkV 4 ?_
  refine tkV 5 ?_
  refine tkV 6 ?_
  refine tkV 7 ?_
  refine tkV 8 ?_
  refine tkV 11 ?_
  refine tkV 12 ?_
  refine tkV 13 ?_
  refine aR [2] ?_
  refine AllReadyH.cons (o := _) rfl (fun K hK => ?_) AllReadyH.nil
  go_simp
  go_at_call 47
  refine (K1.out _).mono ?_
  rintro e w2 ⟨rfl, c2⟩
  have q2 := q1.trans c2
  refine hK.out _ _ (KS.out _ q2) (fun hHeld2 => ?_)
  clear hK K
  refine pg ?_
  refine aR [9] ?_
  refine AllReadyH.cons (o := _) rfl (fun K hK => ?_) AllReadyH.nil
  go_simp
  go_at_call 48
  refine (K2.out _).mono ?_
  rintro e w3 ⟨rfl, rfl⟩
  refine hK.out _ _ (KS.out _ q2) (fun hHeld2 => ?_)
  clear hK K
  refine pg ?_
  refine aR [10] ?_
  refine AllReadyH.cons (o := _) rfl (fun K hK => ?_) AllReadyH.nil
  go_simp
  go_at_call 47
  refine (K3.out _).mono ?_
  rintro e w3 ⟨rfl, c3⟩
  have q3 := q2.trans c3
  refine hK.out _ _ (KS.out _ q3) (fun hHeld2 => ?_)
  clear hK K
  refine pg ?_
  refine aR [14] ?_
  refine AllReadyH.cons (o := _) rfl (fun K hK => ?_) AllReadyH.nil
  go_simp
  have q9 := q3.alloc (.cells #[.string r1, .string n, .string r2, .string v] 9)
  have hz := Q0.out.size
  have hz2 := q3.size
  have o9 := four_own w.heap.size w3 r1 n r2 v (by omega)
  refine hK.out _ _ (KS.out _ q9) (fun hHeld2 => ?_)
  clear hK K
  refine pg ?_
  refine tkV 15 ?_
  refine wpAnyH_done (by kernel_rfl) ?_ _
  go_wp2_with fail
  go_ret
  exact ⟨_, rfl, o9, Q0.out.trans q9⟩
end Go.Proofs.Ythlbpjopkaninaa

namespace Go.Proofs.Ythlbpjopkaninaa
set_option maxRecDepth 100000
open Go.ChangeShapes Go.WideShapes Go.ChangeAt Go.RowKit
set_option linter.unusedVariables false
theorem run_append_txts (w : World) (base b2 : Nat) (ty : TypeId) (v : Value) (l m : List ByteArray) {A : Option Addr} {n c : Nat} (h : w.ownsRow base 9 1 v l.length (l.map Value.string))
    (g : w.ownsRow b2 9 1 (.slice A n c) m.length (m.map Value.string)) (hb : base ≤ w.heap.size) (hl : l.length + m.length ≤ 1000000) :
    ∃ v' w', (Builtin.append_ #[59, 59] ty #[v, .slice A n c]).run Try.prog w = .ok v' w' ∧ w'.ownsRow base 9 1 v' (l ++ m).length ((l ++ m).map Value.string) ∧ w.grownBy w' v.ownBlock := by
  obtain ⟨i0, hi0, hz0, hz1, hz2⟩ := info_parts info_str
  rcases g.2 with ⟨e, h0⟩ | ⟨k, cap, cur, e, -, hk, -⟩
  · rw [e]
    have hm : m = [] := List.length_eq_zero_iff.1 h0
    subst hm
    exact ⟨v, w, run_append_owned_none (P := Try.prog) (w := w) base 59 ty 9 i0 1 Try.underlying59 hi0 v _ _ h, by simpa using h, World.grownBy.refl w _⟩
  · injection e with e1 e2 e3
    subst e1 e2 e3
    obtain ⟨v', w', h1, h2, h3, -⟩ := run_append_own (P := Try.prog) w base 59 ty 9 i0 (.string ⟨#[]⟩) 1 16 Try.underlying59 hi0 hz0 hz1 hz2 rfl (by decide) v l.length (l.map Value.string) h ⟨k, 0, none⟩ m.length c (m.map Value.string) (by simp) (World.ownsRow.cells (g := k) g rfl) (by intro u hu; obtain ⟨s, -, rfl⟩ := List.mem_map.1 hu; rfl) (by unfold maxLen; omega) (by omega) hb
    exact ⟨v', w', h1, by rw [List.length_append, List.map_append]; exact h2, h3⟩
theorem wpList_append_txts {ops : Array Oper} {rest : List Oper} {o : Oper} {a : Act} {Q : Exit → Act → World → Prop} (w : World) (hgd : o.guard = none) (s x : Operand)
    (ho : o.op = .call { callee := .builtin .append, args := #[s, x], argTypes := #[59, 59] })
    (base b2 : Nat) (v : Value) (l m : List ByteArray) {A : Option Addr} {n c : Nat} (hs : a.eval s = v) (hx : a.eval x = .slice A n c) (h : w.ownsRow base 9 1 v l.length (l.map Value.string))
    (g : w.ownsRow b2 9 1 (.slice A n c) m.length (m.map Value.string)) (hb : base ≤ w.heap.size) (hl : l.length + m.length ≤ 1000000)
    (k : ∀ v' w', w'.ownsRow base 9 1 v' (l ++ m).length ((l ++ m).map Value.string) → w.grownBy w' v.ownBlock → wpList Try.prog ops Q rest (a.put o.dst v') w') : wpList Try.prog ops Q (o :: rest) a w := by
  refine wpList_plain hgd fun K hK => ?_
  obtain ⟨v', w', h1, h2, h3⟩ := run_append_txts w base b2 o.type v l m h g hb hl
  unfold Oper.wp execOp
  simp only [ho, resolve, invoke, builtin, Sem.run_bind, Sem.run_pure, Result.andThen_ok, List.map_toArray, List.map_cons, List.map_nil, hs, hx, h1]
  exact hK _ _ (k v' w' h2 h3)
end Go.Proofs.Ythlbpjopkaninaa

namespace Go.Proofs.Ythlbpjopkaninaa
set_option maxRecDepth 100000
open Go.ChangeShapes Go.WideShapes Go.ChangeAt Go.RowKit
set_option linter.unusedVariables false
set_option linter.unusedSimpArgs false
set_option maxRecDepth 100000
/-- A row of texts of the call's own. -/
def OwnT (base : Nat) (w : World) (v : Value) (l : List ByteArray) : Prop := w.ownsRow base 9 1 v l.length (l.map Value.string)
theorem OwnT.nil (base : Nat) (w : World) : OwnT base w (.slice none 0 0) [] := World.ownsRow_nil w _ _ _
theorem OwnT.on {base : Nat} {w w' : World} {v : Value} {l : List ByteArray} (h : OwnT base w v l) (q : Q w w') : OwnT base w' v l := by
  rcases h.2 with ⟨rfl, h0⟩ | ⟨g, cap, cur, rfl, hb, hg, h1, h2, h3, h4⟩
  · exact ⟨h.1, .inl ⟨rfl, h0⟩⟩
  · exact ⟨h.1, .inr ⟨g, cap, cur, rfl, hb, (q.block g (lt_of_block hg)).trans hg, h1, h2, h3, h4⟩⟩
theorem OwnT.form {base : Nat} {w : World} {v : Value} {l : List ByteArray} (h : OwnT base w v l) : ∃ A c, v = .slice A l.length c := by
  rcases h.2 with ⟨rfl, h0⟩ | ⟨g, cap, cur, rfl, -⟩
  · exact ⟨none, 0, by rw [h0]⟩
  · exact ⟨_, _, rfl⟩
theorem okNt_step {l : List Nte} {i : Nat} (h : i < l.length) (k : ∀ x ∈ l.take i, okNt x = true) (q : okNt l[i] = true) : ∀ x ∈ l.take (i + 1), okNt x = true := by
  intro x hx
  rw [List.take_succ_eq_append_getElem h] at hx
  rcases List.mem_append.1 hx with hx | hx
  · exact k x hx
  · rw [List.mem_singleton.1 hx]; exact q
set_option maxHeartbeats 8000000 in
theorem layN_any (l : List Nte) (v : Value) (w : World) (ht : Ntes w w.heap.size v l) :
    Calls Try.prog 12 #[v] w fun e w' => e = .returned (.tuple #[.string (layV l).1, .int .i64 ((layV l).2 : Nat)]) ∧ Q w w' := by
  obtain ⟨A, c, rfl, -, -, hok, hcells⟩ := ht
  have HC := Lib.hid hcells
  have HK := Lib.hid hok
  clear hcells hok
  by_cases h0 : l.length = 0
  · have HV := Lib.hid (layV_len (l := l) (.inl h0))
    rw [HV.out]
    obtain rfl := List.length_eq_zero_iff.1 h0
    clear HV HC HK h0
    simp only [List.length_nil]
    go_enter Try.func12, Try.ntmps12
    go_wp2_with fail
    go_ret2
    exact ⟨rfl, Q.refl _⟩
  have hb0 : ((l.length : Int) == 0) = false := beq_false_of_ne (by omega)
  have hb0' : ¬ ((l.length : Int) = 0) := by omega
  by_cases h1 : 100 < l.length
  · have HV := Lib.hid (layV_len (l := l) (.inr h1))
    rw [HV.out]
    have h1' : (100 : Int) < (l.length : Int) := by omega
    clear HV HC HK h0
    go_enter Try.func12, Try.ntmps12
    go_wp2_with fail
    go_ret2
    exact ⟨rfl, Q.refl _⟩
  have h1' : ¬ (100 : Int) < (l.length : Int) := by omega
  have HL0 := Lib.hid h0
  clear h0
  go_enter Try.func12, Try.ntmps12
  go_wp2_with fail
  go_loopw [4, 19] (fun O I wr => ∃ i : Nat, i ≤ l.length ∧ I = .int .i64 i ∧ OwnT w.heap.size wr O (txN (l.take i)) ∧ Q w wr ∧ Hid (∀ x ∈ l.take i, okNt x = true)) (fun _ I _ => l.length - (intOf I).toNat)
  case atStart => exact ⟨0, Nat.zero_le _, rfl, OwnT.nil _ _, Q.refl _, Lib.hid (by simp)⟩
  case round =>
    obtain ⟨i, hil, rfl, hown, hbel, HOK⟩ := hrel
    by_cases hlt : i < l.length
    · obtain ⟨a, hAa, ha, hat⟩ := HC.out i hlt
      subst hAa
      obtain ⟨c0, c1, c2, c3⟩ := hat.keep (by rw [add_block]; exact ha) fun p hp => hbel.cell hp
      have hst := (HK.out _ (List.getElem_mem hlt)).1
      have HW := Lib.hid (txN_take l i hlt)
      have HB := Lib.hid (fun (k : okNt l[i] = false) => layV_bad (List.getElem_mem hlt) k)
      have HG := Lib.hid (fun (k : okNt l[i] = true) => okNt_step hlt HOK.out k)
      have hlen : (txN (l.take i)).length ≤ 400 := by rw [txN_len, List.length_take]; omega
      obtain ⟨y, hy⟩ : ∃ y, y = l[i] := ⟨_, rfl⟩
      rw [← hy] at c0 c1 c2 c3 HW hst HB HG
      clear hy hat
      have hilt : (i : Int) < (l.length : Int) := by omega
      have M := Lib.hid (fun (x : World) => may_any y x)
      have X := Lib.hid (fun (x : World) => texts_any y x hst)
      have bb := Bx.new wr 39 #[.int .u64 (y.st : Nat), .string y.n, .string y.val, .bool y.gone]
      have q0 := (Q.refl wr).alloc (.cells #[.int .u64 (y.st : Nat), .string y.n, .string y.val, .bool y.gone] 39)
      have own0 := hown.on q0
      have p0 := hbel.trans q0
      obtain ⟨wb, hwb⟩ : ∃ z, z = wr.alloc (.cells #[.int .u64 (y.st : Nat), .string y.n, .string y.val, .bool y.gone] 39) := ⟨_, rfl⟩
      rw [← hwb] at bb own0 p0
      have BB := Lib.hid bb
      have OWN := Lib.hid own0
      have P0 := Lib.hid p0
      rw [nte] at M X
      have b0 := bb.cell 0
      have b1 := bb.cell 1
      have b2 := bb.cell 2
      have b3 := bb.cell 3
      simp only [List.getElem?_toArray, List.getElem?_cons_zero, List.getElem?_cons_succ] at b0 b1 b2 b3
      clear bb q0 own0 p0 hown hbel
      cases hg : okNt y with
      | false =>
        rw [hg] at M
        have HV := Lib.hid (HB.out hg)
        clear HB HG hg
        go_upto_region 7 with fail
        rw [← hwb]
        clear hwb c0 c1 c2 c3
        go_wp2_with fail
        refine (M.out _).mono ?_
        rintro e w1 ⟨rfl, q1⟩
        go_wp2_with fail
        go_ret2
        exact ⟨by rw [HV.out]; rfl, P0.out.trans q1⟩
      | true =>
        rw [hg] at M
        have HV := Lib.hid (HG.out hg)
        clear HB HG hg
        go_upto_region 7 with fail
        rw [← hwb]
        clear hwb c0 c1 c2 c3
        go_wp2_with fail
        refine (M.out _).mono ?_
        rintro e w1 ⟨rfl, q1⟩
        have bb := BB.out.on q1
        have p1 := P0.out.trans q1
        have b0 := bb.cell 0
        have b1 := bb.cell 1
        have b2 := bb.cell 2
        have b3 := bb.cell 3
        simp only [List.getElem?_toArray, List.getElem?_cons_zero, List.getElem?_cons_succ] at b0 b1 b2 b3
        have own1 := OWN.out.on q1
        clear bb
        go_wp2_with fail
        refine (X.out _).mono ?_
        rintro e w2 ⟨g2, rfl, o2, q2⟩
        have own2 := own1.on q2
        have p2 := p1.trans q2
        have hz := P0.out.size
        have hz1 := q1.size
        have hz2 := q2.size
        clear b0 b1 b2 b3 own1
        go_wp2_with (at_builtin; refine wpList_append_txts _ rfl _ _ rfl w.heap.size _ _ _ _ rfl rfl own2 o2 ?hb ?hl ?_; (case hb => exact p2.size); (case hl => show _ + 4 ≤ _; omega); intro v8 w8 o8 g8)
        have q8 : Q w w8 := Below.grown p2 g8 p2.size (fun k hk => (World.ownsRow.lt own2 k hk).1)
        have o8 : OwnT w.heap.size w8 v8 (txN (l.take (i + 1))) := by rw [HW.out]; exact o8
        go_roundw
        case rel => exact ⟨i + 1, by omega, by go_num, o8, q8, HV⟩
        case measure => simp [intOf]; omega
    · have h2 : ¬ (i : Int) < (l.length : Int) := by omega
      have hti : l.take i = l := List.take_of_length_le (by omega)
      rw [hti] at hown HOK
      have HV := Lib.hid (layV_yes HOK.out (by have := HL0.out; omega))
      have HV2 := Lib.hid (layV_big HOK.out (by have := HL0.out; omega))
      have hok := txN_ok HOK.out (by omega)
      obtain ⟨A2, c2, rfl⟩ := hown.form
      have hrd := Txts.own hown
      have L := Lib.hid (list_any (txN l) _ wr (by rw [txN_len]; omega) (fun s hs => Nat.le_trans (txN_size HOK.out s hs) (by omega)) hrd)
      rw [lstV_yes hok] at L
      have hsz : (lst (txN l)).length = (mk (lst (txN l))).size := (mk_size _).symm
      rw [hsz] at HV HV2
      generalize hz : mk (lst (txN l)) = Z at L HV HV2
      clear hrd hown hok hsz hz hti
      by_cases hbig : 12000 < Z.size
      · have hbig' : (12000 : Int) < (Z.size : Int) := by omega
        have HV := Lib.hid (HV2.out hbig)
        clear HV2
        go_wp2_with fail
        refine (L.out).mono ?_
        rintro e w3 ⟨rfl, q3⟩
        go_wp2_with fail
        go_ret2
        exact ⟨by rw [HV.out]; rfl, hbel.trans q3⟩
      · have hbig' : ¬ (12000 : Int) < (Z.size : Int) := by omega
        have HV := Lib.hid (HV.out hbig)
        clear HV2
        go_wp2_with fail
        refine (L.out).mono ?_
        rintro e w3 ⟨rfl, q3⟩
        go_wp2_with fail
        go_ret2
        exact ⟨by rw [HV.out]; rfl, hbel.trans q3⟩
end Go.Proofs.Ythlbpjopkaninaa

namespace Go.Proofs.Ythlbpjopkaninaa
set_option maxRecDepth 100000
open Go.ChangeShapes Go.WideShapes Go.ChangeAt Go.RowKit
set_option linter.unusedVariables false
set_option linter.unusedSimpArgs false
set_option maxRecDepth 100000
set_option maxHeartbeats 8000000 in
theorem noteOf_any (a b c d : ByteArray) (ad : Addr) (cap : Nat) (w : World) (ha : a.size ≤ 100000) (hb : ad.block < w.heap.size) (h0 : w.cell? (ad.add 0) = some (.string a)) (h1 : w.cell? (ad.add 1) = some (.string b)) (h2 : w.cell? (ad.add 2) = some (.string c)) (h3 : w.cell? (ad.add 3) = some (.string d)) :
    Calls Try.prog 37 #[.slice (some ad) 4 cap] w fun e w' => e = .returned (nte (noteV a b c d)) ∧ Q w w' := by
  obtain ⟨⟨n, x, f⟩, ht⟩ : ∃ z, tn a = z := ⟨_, rfl⟩
  have K0 := Lib.hid (fun (y : World) => takeNum_any a y (by omega) ht)
  have K1 : Hid (∀ y : World, Calls Try.prog 48 #[.bool true] y fun e w' => e = .returned (.int .u64 1) ∧ w' = y) := Lib.hid (fun (y : World) => goneNum_any true y)
  have K2 : Hid (∀ y : World, Calls Try.prog 47 #[.int .u64 1] y fun e w' => e = .returned (.string (mk (oct 1 8))) ∧ Q y w') := Lib.hid (fun (y : World) => num_any 1 y (by decide))
  have HR : Hid (nte (noteV a b c d) = .agg #[.int .u64 (n : Nat), .string b, .string d, .bool (c.toList == (mk (oct 1 8)).toList)]) := Lib.hid (by rw [noteV, ht, nte, eq_texts])
  rw [add_pos _ (by omega)] at h1 h2 h3
  have q0 := (Q.refl w).alloc (.cells #[.int .u64 0, .string ⟨#[]⟩, .string ⟨#[]⟩, .bool false] 39)
  have b0 := Bx.new w 39 #[.int .u64 0, .string ⟨#[]⟩, .string ⟨#[]⟩, .bool false]
  have KS : Hid (∀ y, Q w y → (fun W => W.cell? ⟨ad.block, ad.off + 1, none⟩ = some (.string b) ∧ W.cell? ⟨ad.block, ad.off + 2, none⟩ = some (.string c) ∧ W.cell? ⟨ad.block, ad.off + 3, none⟩ = some (.string d)) y) := Lib.hid fun y q => ⟨(q.cell (p := ⟨ad.block, ad.off + 1, none⟩) hb).trans h1, (q.cell (p := ⟨ad.block, ad.off + 2, none⟩) hb).trans h2, (q.cell (p := ⟨ad.block, ad.off + 3, none⟩) hb).trans h3⟩
  have c0 := (q0.cell (p := ad.add 0) (by rw [add_block]; exact hb)).trans h0
  obtain ⟨wb, hwb⟩ : ∃ z, z = w.alloc (.cells #[.int .u64 0, .string ⟨#[]⟩, .string ⟨#[]⟩, .bool false] 39) := ⟨_, rfl⟩
  rw [← hwb] at q0 b0 c0
  rw [show ad.add 0 = ad by simp [Addr.add]] at c0
  have Q0 := Lib.hid q0
  have B0 := Lib.hid b0
  have qb := Q.refl wb
  generalize mk (oct 1 8) = r at *
  clear b0 q0 h0 h1 h2 h3 ht
  go_enter Try.func37, Try.ntmps37
  go_upto_region 1 with fail
  rw [← hwb]
  clear hwb
  go_wp2_with fail
  refine (K0.out _).mono ?_
  rintro e w1 ⟨rfl, q1⟩
  clear c0
  go_upto_region 2 with fail
  have q1 := qb.trans q1
  have q1 := q1.drew
  refine wp_region_held_drew (S := (fun W => W.cell? ⟨ad.block, ad.off + 1, none⟩ = some (.string b) ∧ W.cell? ⟨ad.block, ad.off + 2, none⟩ = some (.string c) ∧ W.cell? ⟨ad.block, ad.off + 3, none⟩ = some (.string d))) (by kernel_rfl) (KS.out _ (Q0.out.trans q1)) (fun hHeld => ?_)
  refine tkV 0 ?_
  refine tkV 1 ?_
  refine tkV 2 ?_
  refine tkV 3 ?_
  refine tkV 4 ?_
  refine tkV 5 ?_
  refine tkV 6 ?_
  refine tkV 7 ?_
  refine tkV 8 ?_
  refine tkV 9 ?_
  refine aR [10] ?_
  refine AllReadyH.cons (o := _) rfl (fun K hK => ?_) AllReadyH.nil
  go_simp
  go_at_call 48
  refine (K1.out _).mono ?_
  rintro e w2 ⟨rfl, rfl⟩
  refine hK.out _ _ (KS.out _ (Q0.out.trans q1)) (fun hHeld2 => ?_)
  clear hK K
  refine pg ?_
  refine aR [11] ?_
  refine AllReadyH.cons (o := _) rfl (fun K hK => ?_) AllReadyH.nil
  go_simp
  go_at_call 47
  refine (K2.out _).mono ?_
  rintro e w2 ⟨rfl, c2⟩
  have q2 := q1.trans c2
  refine hK.out _ _ (KS.out _ (Q0.out.trans q2)) (fun hHeld2 => ?_)
  clear hK K
  refine pg ?_
  refine tkV 12 ?_
  refine tkV 13 ?_
  refine tkV 14 ?_
  refine aR [15] ?_
  have bb := B0.out.on q2
  have c0 := bb.cell 0
  have c1 := bb.cell 1
  have c2 := bb.cell 2
  have c3 := bb.cell 3
  have f0 := bb.frozen 0
  have f1 := bb.frozen 1
  have f2 := bb.frozen 2
  have f3 := bb.frozen 3
  simp only [List.getElem?_toArray, List.getElem?_cons_zero, List.getElem?_cons_succ] at c0 c1 c2 c3
  have bs := (((bb.set 0 (.int .u64 (n : Nat))).set 1 (.string b)).set 2 (.string d)).set 3 (.bool (c.toList == r.toList))
  have q9 : Q w ((((w2.setCell ⟨w.heap.size, 0, none⟩ (.int .u64 (n : Nat))).setCell ⟨w.heap.size, 1, none⟩ (.string b)).setCell ⟨w.heap.size, 2, none⟩ (.string d)).setCell ⟨w.heap.size, 3, none⟩ (.bool (c.toList == r.toList))) := Q.set (Q.set (Q.set (Q.set (Q0.out.trans q2) (Nat.le_refl _) _) (Nat.le_refl _) _) (Nat.le_refl _) _) (Nat.le_refl _) _
  have k0 := bs.cell 0
  have k1 := bs.cell 1
  have k2 := bs.cell 2
  have k3 := bs.cell 3
  simp at k0 k1 k2 k3
  obtain ⟨W9, hW9⟩ : ∃ z, z = ((((w2.setCell ⟨w.heap.size, 0, none⟩ (.int .u64 (n : Nat))).setCell ⟨w.heap.size, 1, none⟩ (.string b)).setCell ⟨w.heap.size, 2, none⟩ (.string d)).setCell ⟨w.heap.size, 3, none⟩ (.bool (c.toList == r.toList))) := ⟨_, rfl⟩
  rw [← hW9] at k0 k1 k2 k3 q9
  have H0 := Lib.hid k0; have H1 := Lib.hid k1; have H2 := Lib.hid k2; have H3 := Lib.hid k3; have H9 := Lib.hid q9
  clear k0 k1 k2 k3 q9 bs
  refine AllReadyH.cons (o := _) rfl (fun K hK => ?_) AllReadyH.nil
  go_simp
  rw [← hW9]
  clear hW9
  refine hK.out _ _ (KS.out _ H9.out) (fun hHeld2 => ?_)
  clear hK K
  refine pg ?_
  refine wpAnyH_done (by kernel_rfl) ?_ _
  go_wp2_with fail
  (try simp only [Exit.inBlock, Exit.then])
  have k0 := H0.out; have k1 := H1.out; have k2 := H2.out; have k3 := H3.out
  refine bodyPost_ret (v := .agg #[.int .u64 (n : Nat), .string b, .string d, .bool (c.toList == r.toList)]) ?_ rfl ⟨by rw [HR.out], H9.out⟩
  simp [results, Try.results37, go_sem] at k0 k1 k2 k3 ⊢
  simp [k0, k1, k2, k3]
end Go.Proofs.Ythlbpjopkaninaa

namespace Go.Proofs.Ythlbpjopkaninaa
set_option maxRecDepth 100000
open Go.ChangeShapes Go.WideShapes Go.ChangeAt Go.RowKit
set_option linter.unusedVariables false
/-- What TakeList leaves: the list as a slice, and the rest. -/
def TookC (w : World) (r : List ByteArray × ByteArray × Nat) (e : Ending) (w' : World) : Prop :=
  ∃ A n c, e = .returned (.tuple #[.slice A n c, .string r.2.1, .int .i64 (r.2.2 : Nat)]) ∧ Txts w' w'.heap.size (.slice A n c) r.1 ∧ Q w w' ∧ n ≤ c
theorem own_cap {w : World} {base : Nat} {e : TypeId} {A : Option Addr} {m c n : Nat} {xs : List Value} (h : w.ownsRow base e 1 (.slice A m c) n xs) : m ≤ c := by
  rcases h.2 with ⟨h1, h0⟩ | ⟨g, cap, cur, h1, hb, hg, h2, h3, h4, h5⟩
  · injection h1 with h1 h2 h3; omega
  · injection h1 with h1 h6 h7; subst h6 h7; omega
set_option maxHeartbeats 2000000 in
theorem takeListC_any (s : ByteArray) (w : World) (hs : s.size ≤ 1000000000) :
    Calls Try.prog 53 #[.string s] w (TookC w (tls s)) := by
  obtain ⟨⟨n, r, f⟩, htc⟩ : ∃ x, tc s = x := ⟨_, rfl⟩
  have hsz := tc_size s
  have HT := Lib.hid htc
  have HS : Hid (tls s = if f = 0 then tl n r else ([], ⟨#[]⟩, f)) := Lib.hid (by rw [tls, htc])
  rw [htc] at hsz
  obtain ⟨hr, hn⟩ : r.size ≤ s.size ∧ n ≤ 4000 := hsz
  clear htc
  by_cases hf : f = 0
  · subst hf
    go_enter Try.func53, Try.ntmps53
    go_wp2_with fail
    refine (cutCount_any s w hs HT.out).mono ?_
    rintro e w1 ⟨rfl, q⟩
    obtain ⟨hinv, hbel⟩ := inv_start w w1 r q
    have HI := Lib.hid hinv; have HB := Lib.hid hbel
    clear hinv hbel
    obtain ⟨G, hG⟩ : ∃ G, G = w1.heap.size := ⟨_, rfl⟩
    have HG := Lib.hid hG
    clear hG
    go_wp2_with fail
    go_loopw [10, 22] (fun _ i wr => ∃ (j : Nat) (g : List ByteArray) (x : ByteArray), j ≤ n ∧ g.length ≤ j ∧ x.size ≤ s.size ∧ i = .int .i64 j ∧ Inv w.heap.size w1.heap.size (w1.heap.size + 1) wr g x ∧ Below w.heap.size w wr ∧ Hid (tls s = ahead g (tl (n - j) x))) (fun _ i _ => n - (intOf i).toNat)
    case atStart => exact ⟨0, [], r, Nat.zero_le _, Nat.zero_le _, hr, rfl, HI.out, HB.out, Lib.hid (by rw [HS.out, ahead_nil]; simp)⟩
    case round =>
      clear HI HB
      obtain ⟨j, g, x, hj, hg, hx, rfl, hinv, hbel, HA⟩ := hrel
      by_cases hlt : j < n
      · obtain ⟨⟨y, b, f⟩, htt⟩ : ∃ z, tt x = z := ⟨_, rfl⟩
        have HY := Lib.hid htt
        have hb := tt_size x
        rw [htt] at hb
        have hb' : b.size ≤ s.size := Nat.le_trans hb hx
        clear htt hb
        by_cases hf : f = 0
        · subst hf
          go_wp2_with fail
          refine (next_good _ _ _ g x wr (by omega) (by omega) hinv HY.out).mono ?_
          rintro e w2 ⟨rfl, hinv2, hbel2⟩
          go_wp2_with fail
          go_roundw
          case rel => exact ⟨j + 1, g ++ [y], b, by omega, by rw [List.length_append, List.length_singleton]; omega, hb', by go_num, hinv2, hbel.trans hbel2, Lib.hid (by rw [HA.out, show n - j = (n - (j + 1)) + 1 by omega, ahead_step HY.out])⟩
          case measure => simp [intOf]; omega
        · have HE : Hid (tls s = ([], ⟨#[]⟩, f)) := Lib.hid (by rw [HA.out, show n - j = (n - (j + 1)) + 1 by omega, ahead_bad HY.out hf])
          go_wp2_with fail
          refine (next_bad _ _ _ g x wr (by omega) hinv HY.out (by omega)).mono ?_
          rintro e w2 ⟨rfl, q2⟩
          go_wp2_with fail
          go_ret3
          exact ⟨none, 0, 0, by rw [HE.out]; rfl, by rw [HE.out]; exact Txts.nil _ _, Q.trans hbel q2, Nat.le_refl _⟩
      · have HE : Hid (tls s = (g, x, 0)) := Lib.hid (by rw [HA.out, show n - j = 0 by omega, tl]; simp [ahead])
        obtain ⟨v, h1, h2, h3, h4, h5⟩ := hinv
        obtain ⟨A, m, c, rfl⟩ := own_slice h3
        have ht := Lib.hid (Txts.own h3)
        have hcap := own_cap h3
        have c1 := cell_of_one h1
        have c2 := cell_of_one h2
        clear h1 h2 h3
        go_wp2_with fail
        go_region
        go_wp2
        go_ret3
        exact ⟨A, m, c, by rw [HE.out]; rfl, by rw [HE.out]; exact ht.out, hbel.drew, hcap⟩
  · go_enter Try.func53, Try.ntmps53
    go_wp2_with fail
    refine (cutCount_any s w hs HT.out).mono ?_
    rintro e w1 ⟨rfl, q⟩
    go_wp2
    go_ret3
    refine ⟨none, 0, 0, by rw [HS.out, if_neg hf]; rfl, by rw [HS.out, if_neg hf]; exact Txts.nil _ _, q.alloc _, Nat.le_refl _⟩
def WholeC (w : World) (r : List ByteArray × Nat) (e : Ending) (w' : World) : Prop :=
  ∃ A n c, e = .returned (.tuple #[.slice A n c, .int .i64 (r.2 : Nat)]) ∧ Txts w' w'.heap.size (.slice A n c) r.1 ∧ Q w w' ∧ n ≤ c
set_option maxHeartbeats 1000000 in
theorem wholeC_any (s : ByteArray) (w : World) (hs : s.size ≤ 1000000000) :
    Calls Try.prog 36 #[.string s] w (WholeC w (whl s)) := by
  have HW : Hid (whl s = if (tls s).2.2 = 0 then (if (tls s).2.1.size = 0 then ((tls s).1, 0) else ([], 2)) else ([], (tls s).2.2)) := Lib.hid rfl
  have HT := Lib.hid (takeListC_any s w hs)
  obtain ⟨⟨l, r, f⟩, htl⟩ : ∃ x, tls s = x := ⟨_, rfl⟩
  rw [htl] at HW HT
  clear htl
  by_cases hf : f = 0
  · subst hf
    by_cases hr : r.size = 0
    · have hr' := nil_of hr
      have HE : Hid (whl s = (l, 0)) := Lib.hid (by rw [HW.out, if_pos rfl, if_pos hr])
      have HR := Lib.hid hr
      clear hr
      go_enter Try.func36, Try.ntmps36
      go_wp2_with fail
      refine HT.out.mono ?_
      rintro e w1 ⟨A, n, c, rfl, ht, q, hcap⟩
      go_wp2
      go_ret2
      exact ⟨A, n, c, by rw [HE.out]; rfl, by rw [HE.out]; exact ht, q, hcap⟩
    · have hr' := not_nil hr
      have hr2 := not_empty hr
      have HE : Hid (whl s = ([], 2)) := Lib.hid (by rw [HW.out, if_pos rfl, if_neg hr])
      go_enter Try.func36, Try.ntmps36
      go_wp2_with fail
      refine HT.out.mono ?_
      rintro e w1 ⟨A, n, c, rfl, ht, q, hcap⟩
      go_wp2
      go_ret2
      exact ⟨none, 0, 0, by rw [HE.out]; rfl, by rw [HE.out]; exact Txts.nil _ _, q, Nat.le_refl _⟩
  · have HE : Hid (whl s = ([], f)) := Lib.hid (by rw [HW.out, if_neg hf])
    go_enter Try.func36, Try.ntmps36
    go_wp2_with fail
    refine HT.out.mono ?_
    rintro e w1 ⟨A, n, c, rfl, ht, q, hcap⟩
    go_wp2
    go_ret2
    exact ⟨none, 0, 0, by rw [HE.out]; rfl, by rw [HE.out]; exact Txts.nil _ _, q, Nat.le_refl _⟩
end Go.Proofs.Ythlbpjopkaninaa

namespace Go.Proofs.Ythlbpjopkaninaa
set_option maxRecDepth 100000
open Go.ChangeShapes Go.WideShapes Go.ChangeAt Go.RowKit
set_option linter.unusedVariables false
set_option linter.unusedSimpArgs false
set_option maxRecDepth 100000
def tknL (s : ByteArray) : List Nte := (takeV s).getD []
def tknE (s : ByteArray) : Nat := if (takeV s).isSome then 0 else 2
theorem tk_none {s : ByteArray} (h : takeV s = none) : tknL s = [] ∧ tknE s = 2 := by simp [tknL, tknE, h]
theorem tk_some {s : ByteArray} {l : List Nte} (h : takeV s = some l) : tknL s = l ∧ tknE s = 0 := by simp [tknL, tknE, h]
theorem add_add' (a : Addr) (p k : Nat) : (a.add p).add k = a.add (p + k) := by
  unfold Addr.add
  by_cases h1 : p = 0
  · subst h1; simp
  · by_cases h2 : k = 0
    · subst h2; simp
    · simp [h1, h2, Nat.add_assoc]
/-- What Take of notes leaves. -/
def TakeN (w : World) (s : ByteArray) (e : Ending) (w' : World) : Prop := ∃ v', e = .returned (.tuple #[v', .int .i64 (tknE s : Nat)]) ∧ OwnW w.heap.size w' v' (tknL s) ∧ Q w w'
theorem TakeN.no {w w' : World} {s : ByteArray} (h : takeV s = none) (q : Q w w') : TakeN w s (.returned (.tuple #[.slice none 0 0, .int .i64 2])) w' :=
  ⟨_, by rw [(tk_none h).2]; rfl, by rw [(tk_none h).1]; exact OwnW.nil _ _, q⟩
theorem TakeN.yes {w w' : World} {s : ByteArray} {v : Value} {l : List Nte} (h : takeV s = some l) (o : OwnW w.heap.size w' v l) (q : Q w w') : TakeN w s (.returned (.tuple #[v, .int .i64 0])) w' :=
  ⟨_, by rw [(tk_some h).2]; rfl, by rw [(tk_some h).1]; exact o, q⟩
set_option maxHeartbeats 16000000 in
theorem takeN_any (s : ByteArray) (w : World) (hs : s.size ≤ 1000000) :
    Calls Try.prog 14 #[.string s] w (TakeN w s) := by
  have HW := Lib.hid (wholeC_any s w (by omega))
  obtain ⟨⟨t, f⟩, hwt⟩ : ∃ x, whl s = x := ⟨_, rfl⟩
  have hsz := whl_szs s
  rw [hwt] at HW hsz
  obtain ⟨hn, hz⟩ := hsz
  simp only at hn hz
  by_cases hf : f = 0
  · subst hf
    by_cases h4 : t.length % 4 = 0
    · have hm2 : ((t.length : Int) % 4 != 0) = false := by simp; omega
      have HNO := Lib.hid (fun k => takeV_no hwt k)
      have HYE := Lib.hid (fun k => takeV_yes hwt h4 k)
      have HRK := Lib.hid (rawN_okW (n := t.length / 4) hz (by omega))
      have HRL := rawN_len t (t.length / 4)
      have HZ := Lib.hid hz
      obtain ⟨n, hnn⟩ : ∃ n, n = t.length / 4 := ⟨_, rfl⟩
      rw [← hnn] at HNO HYE HRK HRL
      have HT4 : Hid (t.length = n * 4) := Lib.hid (by omega)
      have hn1 : n ≤ 1000 := by omega
      clear h4 hz hwt hnn
      go_enter Try.func14, Try.ntmps14
      go_wp2_with fail
      refine (HW.out).mono ?_
      rintro e w1 ⟨A, m, c, rfl, ht, q, hcap⟩
      obtain ⟨A', c', e1, hcells⟩ := ht
      injection e1 with e1 e2 e3
      subst e1 e2 e3
      have HC := Lib.hid hcells
      have HQ1 := Lib.hid q
      have CAP := Lib.hid hcap
      clear hcells hcap q HW
      go_wp2_with fail
      go_loopw [6, 7] (fun O I wr => ∃ j p : Nat, j ≤ n ∧ Hid (p = j * 4) ∧ p ≤ t.length ∧ I = .int .i64 (p : Nat) ∧ OwnW w1.heap.size wr O (rawN t j) ∧ Q w1 wr) (fun _ I _ => t.length - (intOf I).toNat)
      case atStart => exact ⟨0, 0, Nat.zero_le _, Lib.hid rfl, Nat.zero_le _, rfl, OwnW.nil _ _, Q.refl _⟩
      case round =>
        obtain ⟨j, p, hj, HP, hpl, rfl, hown, hbel⟩ := hrel
        by_cases hlt : j < n
        · have hp4 : p + 4 ≤ t.length := by have := HP.out; have := HT4.out; omega
          have hpc : p + 4 ≤ c := Nat.le_trans hp4 CAP.out
          obtain ⟨a, rfl, ha, h0⟩ := HC.out p (by omega)
          have k1 : w1.cell? (a.add (p + 1)) = some (.string (t[p + 1]'(by omega))) := by obtain ⟨a', e', -, h⟩ := HC.out (p + 1) (by omega); injection e' with e'; rw [e']; exact h
          have k2 : w1.cell? (a.add (p + 2)) = some (.string (t[p + 2]'(by omega))) := by obtain ⟨a', e', -, h⟩ := HC.out (p + 2) (by omega); injection e' with e'; rw [e']; exact h
          have k3 : w1.cell? (a.add (p + 3)) = some (.string (t[p + 3]'(by omega))) := by obtain ⟨a', e', -, h⟩ := HC.out (p + 3) (by omega); injection e' with e'; rw [e']; exact h
          have hb2 : (a.add p).block < wr.heap.size := by rw [add_block]; exact Nat.lt_of_lt_of_le ha hbel.size
          have hsz0 := HZ.out _ (List.getElem_mem (show p < t.length by omega))
          have HV : Hid (rawN t (j + 1) = rawN t j ++ [noteV (t[p]'(by omega)) (t[p + 1]'(by omega)) (t[p + 2]'(by omega)) (t[p + 3]'(by omega))]) := Lib.hid (by
            rw [rawN_succ, noteAt_is (by have := HP.out; omega)]
            have := HP.out
            subst this
            rfl)
          have N := Lib.hid (noteOf_any (t[p]'(by omega)) (t[p + 1]'(by omega)) (t[p + 2]'(by omega)) (t[p + 3]'(by omega)) (a.add p) (c - p) wr (by omega) hb2
            ((hbel.cell (by rw [add_block, add_block]; exact ha)).trans (by rw [add_add', Nat.add_zero]; exact h0)) ((hbel.cell (by rw [add_block, add_block]; exact ha)).trans (by rw [add_add']; exact k1)) ((hbel.cell (by rw [add_block, add_block]; exact ha)).trans (by rw [add_add']; exact k2)) ((hbel.cell (by rw [add_block, add_block]; exact ha)).trans (by rw [add_add']; exact k3)))
          obtain ⟨z, hz⟩ : ∃ z, z = noteV (t[p]'(by omega)) (t[p + 1]'(by omega)) (t[p + 2]'(by omega)) (t[p + 3]'(by omega)) := ⟨_, rfl⟩
          rw [← hz] at HV N
          rw [nte] at N
          have hlen : (rawN t j).length ≤ 1000 := by rw [rawN_len]; omega
          have hplt : (p : Int) < (t.length : Int) := by omega
          have hpc' : (p : Int) + 4 ≤ (c : Int) := by omega
          clear h0 k1 k2 k3 hsz0 hz ha hb2
          go_wp2_with fail
          skip
          refine (N.out).mono ?_
          rintro e w2 ⟨rfl, q2⟩
          have own2 := hown.on q2
          have p2 := hbel.trans q2
          have own3 := own2.on ((Q.refl w2).alloc (.cells #[.int .u64 (z.st : Nat), .string z.n, .string z.val, .bool z.gone] 39))
          have q3 := p2.alloc (.cells #[.int .u64 (z.st : Nat), .string z.n, .string z.val, .bool z.gone] 39)
          have hz2 := p2.size
          clear own2 N
          go_wp2_with (at_builtin; refine wpList_snoc_nte _ rfl _ _ 22 39 Try.underlying22 rfl w1.heap.size w2.heap.size _ _ z rfl rfl (cells_onente w2 z 39) own3 ?hb ?hl ?_; (case hb => simp; omega); (case hl => omega); intro v8 w8 o8 g8)
          have q8 : Q w1 w8 := Below.grown q3 g8 (by simp; omega) (fun k hk => (World.ownsRow.lt own3 k hk).1)
          have o8 : OwnW w1.heap.size w8 v8 (rawN t (j + 1)) := by rw [HV.out]; exact o8
          go_roundw
          case rel => exact ⟨j + 1, p + 4, by omega, Lib.hid (by rw [HP.out]; omega), hp4, by go_num, o8, q8⟩
          case measure => simp [intOf]; omega
        · obtain rfl : j = n := by omega
          have hpe : p = t.length := by rw [HP.out, HT4.out]
          subst hpe
          have rl := OwnW.read hown HRK.out
          have OW := Lib.hid (OwnW.low hown HQ1.out.size)
          obtain ⟨A3, c3, e3⟩ := hown.form
          rw [HRL] at e3
          subst e3
          clear HRL
          have L := Lib.hid (layN_any (rawN t j) _ wr rl)
          have hqq := HQ1.out.trans hbel
          have HE := layV_err (rawN t j)
          obtain ⟨⟨S, k⟩, hSk⟩ : ∃ x, layV (rawN t j) = x := ⟨_, rfl⟩
          rw [hSk] at L HE HNO HYE
          simp only at L HE
          have hlt2 : ¬ (t.length : Int) < (t.length : Int) := by omega
          have HQ2 := Lib.hid hqq
          clear rl hown hSk hbel hqq
          by_cases hk : k = 0
          · subst hk
            by_cases hS : S = s
            · subst hS
              have HV := Lib.hid (HYE.out rfl)
              have hne : (S.toList == S.toList) = true := by simp
              clear HNO HYE HE
              go_wp2_with fail
              refine (L.out).mono ?_
              rintro e w3 ⟨rfl, q3⟩
              go_wp2_with fail
              go_ret2
              exact TakeN.yes HV.out (OW.out.on q3) (HQ2.out.trans q3)
            · have HV := Lib.hid (HNO.out (by simpa using hS))
              have hne : ¬ (S.toList = s.toList) := fun e => hS (bl_inj (by rw [← toList_bl, ← toList_bl, e]))
              have hne2 : (!(S.toList == s.toList)) = true := by simp [hne]
              clear HNO HYE HE hS
              go_wp2_with fail
              refine (L.out).mono ?_
              rintro e w3 ⟨rfl, q3⟩
              go_wp2_with fail
              go_ret2
              exact TakeN.no HV.out (HQ2.out.trans q3)
          · have HV := Lib.hid (HNO.out (by simp [hk]))
            have hk' : ¬ (k : Int) = 0 := by omega
            clear HNO HYE HE
            go_wp2_with fail
            refine (L.out).mono ?_
            rintro e w3 ⟨rfl, q3⟩
            go_wp2_with fail
            go_ret2
            exact TakeN.no HV.out (HQ2.out.trans q3)
    · have hm2 : ((t.length : Int) % 4 != 0) = true := by simp; omega
      have HV := Lib.hid (takeV_mod hwt h4)
      clear h4 hwt hz
      go_enter Try.func14, Try.ntmps14
      go_wp2_with fail
      refine (HW.out).mono ?_
      rintro e w1 ⟨A, m, c, rfl, ht, q, hcap⟩
      obtain ⟨A', c', e1, hcells⟩ := ht
      injection e1 with e1 e2 e3
      subst e1 e2 e3
      clear hcells hcap HW
      go_wp2_with fail
      go_ret2
      exact TakeN.no HV.out q
  · have HV := Lib.hid (takeV_err (s := s) (by rw [hwt]; exact hf))
    have hf' : ¬ (f : Int) = 0 := by omega
    clear hwt hz
    go_enter Try.func14, Try.ntmps14
    go_wp2_with fail
    refine (HW.out).mono ?_
    rintro e w1 ⟨A, m, c, rfl, ht, q, hcap⟩
    clear ht hcap HW
    go_wp2_with fail
    go_ret2
    exact TakeN.no HV.out q
end Go.Proofs.Ythlbpjopkaninaa

namespace Go.Proofs.Ythlbpjopkaninaa
set_option maxRecDepth 100000
open Go.ChangeShapes Go.WideShapes Go.ChangeAt Go.RowKit
set_option linter.unusedVariables false
set_option linter.unusedSimpArgs false
set_option maxRecDepth 100000
def nA : Nte := ⟨1, ⟨#[97]⟩, ⟨#[120]⟩, false⟩
def nB : Nte := ⟨2, ⟨#[97]⟩, ⟨#[]⟩, true⟩
def nC : Nte := ⟨1, ⟨#[98]⟩, ⟨#[121]⟩, false⟩
def ex3 : List Nte := [nA, nB, nC]
theorem ex3_ok : ∀ x ∈ ex3, okW x := by
  intro x hx
  simp only [ex3, List.mem_cons, List.not_mem_nil, or_false] at hx
  rcases hx with rfl | rfl | rfl <;> exact ⟨by decide, by decide, by decide, trivial⟩
theorem ex3_cnt : (cntN ex3).length = 2 := by kernel_rfl
theorem ex3_it : itN ex3 = [⟨⟨#[98]⟩, ⟨#[121]⟩⟩] := by kernel_rfl
theorem ex3_live : liveN ex3 [nA] = [] := by kernel_rfl
theorem ex3_last : lastN ex3 = 2 := by kernel_rfl
theorem ex3_lay : (layV ex3).2 = 0 ∧ (layV ex3).1.size = 79 := ⟨by kernel_rfl, by kernel_rfl⟩
theorem take_nil : takeV ⟨#[]⟩ = none := by kernel_rfl
theorem three_own (w : World) (base : Nat) (hb : base ≤ w.heap.size) : OwnW base (w.alloc (.cells #[.int .u64 1, .string ⟨#[97]⟩, .string ⟨#[120]⟩, .bool false, .int .u64 2, .string ⟨#[97]⟩, .string ⟨#[]⟩, .bool true, .int .u64 1, .string ⟨#[98]⟩, .string ⟨#[121]⟩, .bool false] 39)) (.slice (some ⟨w.heap.size, 0, none⟩) 3 3) ex3 :=
  ⟨by simp [ex3, ncl, nA, nB, nC], .inr ⟨w.heap.size, 3, #[.int .u64 1, .string ⟨#[97]⟩, .string ⟨#[120]⟩, .bool false, .int .u64 2, .string ⟨#[97]⟩, .string ⟨#[]⟩, .bool true, .int .u64 1, .string ⟨#[98]⟩, .string ⟨#[121]⟩, .bool false], rfl, hb, heap_alloc_new w _, Nat.le_refl _, by unfold maxLen; omega, by simp, by simp [ex3, ncl, nA, nB, nC]⟩⟩
theorem one_own (w : World) : OwnW w.heap.size (w.alloc (.cells #[.int .u64 1, .string ⟨#[97]⟩, .string ⟨#[120]⟩, .bool false] 39)) (.slice (some ⟨w.heap.size, 0, none⟩) 1 1) [nA] :=
  ⟨by simp [ncl, nA], .inr ⟨w.heap.size, 1, #[.int .u64 1, .string ⟨#[97]⟩, .string ⟨#[120]⟩, .bool false], rfl, Nat.le_refl _, heap_alloc_new w _, Nat.le_refl _, by unfold maxLen; omega, by simp, by simp [ncl, nA]⟩⟩
theorem oneI_own (w : World) : OwnI w.heap.size (w.alloc (.cells #[.string ⟨#[98]⟩, .string ⟨#[121]⟩] 58)) (.slice (some ⟨w.heap.size, 0, none⟩) 1 1) [⟨⟨#[98]⟩, ⟨#[121]⟩⟩] :=
  ⟨by simp [icl], .inr ⟨w.heap.size, 1, #[.string ⟨#[98]⟩, .string ⟨#[121]⟩], rfl, Nat.le_refl _, heap_alloc_new w _, Nat.le_refl _, by unfold maxLen; omega, by simp, by simp [icl]⟩⟩
theorem okI_by : ∀ x ∈ [(⟨⟨#[98]⟩, ⟨#[121]⟩⟩ : Itm)], okIZ x := by
  intro x hx
  rw [List.mem_singleton] at hx
  subst hx
  exact ⟨by decide, by decide⟩
theorem okW_a : ∀ x ∈ [nA], okW x := fun x hx => ex3_ok x (by rw [List.mem_singleton] at hx; subst hx; simp [ex3])
set_option maxHeartbeats 4000000 in
theorem awakeY_any (w : World) : Calls Try.prog 19 #[] w fun e w' => e = .returned (.bool true) ∧ Q w w' := by
  have C1 : Hid (∀ x : World, Calls Try.prog 14 #[.string ⟨#[]⟩] x fun e w' => ∃ v', e = .returned (.tuple #[v', .int .i64 2]) ∧ Q x w') := Lib.hid (fun x => (takeN_any ⟨#[]⟩ x (by decide)).mono (fun e w' ⟨v', h1, _, h3⟩ => ⟨v', by rw [h1, (tk_none take_nil).2]; rfl, h3⟩))
  obtain ⟨⟨S, k⟩, hS⟩ : ∃ x, layV ex3 = x := ⟨_, rfl⟩
  have C2 := Lib.hid (fun (x : World) (v : Value) (h : Ntes x x.heap.size v ex3) => layN_any ex3 v x h)
  have hl := ex3_lay
  rw [hS] at C2 hl
  obtain ⟨hk, hz⟩ := hl
  simp only at hk hz C2
  subst hk
  have hz2 : (S.size : Int) = 79 := by omega
  have C3 : Hid (∀ (x : World) (v : Value), Ntes x x.heap.size v ex3 → Calls Try.prog 21 #[v] x fun e w' => ∃ A c, e = .returned (.slice A 2 c) ∧ Q x w') := Lib.hid (fun x v h => (countN_any ex3 v x (by decide) h).mono (fun e w' ⟨v', h1, h2, h3⟩ => by
    obtain ⟨A, c, rfl⟩ := h2.form
    rw [ex3_cnt] at h1
    exact ⟨A, c, h1, h3⟩))
  have C4 := Lib.hid (fun (x : World) (v : Value) (h : Ntes x x.heap.size v ex3) => itemsN_any ex3 v x (by decide) h)
  rw [ex3_it] at C4
  have C5 : Hid (∀ (x : World) (v u : Value), Ntes x x.heap.size v ex3 → Ntes x x.heap.size u [nA] → Calls Try.prog 26 #[v, u] x fun e w' => ∃ A c, e = .returned (.slice A 0 c) ∧ Q x w') := Lib.hid (fun x v u h h2 => (liveN_any ex3 [nA] v u x (by decide) (by decide) h h2).mono (fun e w' ⟨v', h1, h2, h3⟩ => by
    obtain ⟨A, c, rfl⟩ := h2.form
    rw [ex3_live] at h1
    exact ⟨A, c, h1, h3⟩))
  have C6 : Hid (∀ (x : World) (v : Value), Ntes x x.heap.size v ex3 → Calls Try.prog 28 #[v] x fun e w' => e = .returned (.int .u64 2) ∧ Q x w') := Lib.hid (fun x v h => (lastN_any ex3 v x (by decide) h).mono (fun e w' ⟨h1, h3⟩ => ⟨by rw [h1, ex3_last]; rfl, h3⟩))
  have C7 := Lib.hid (fun (x : World) (v u : Value) (h : Itms x x.heap.size v [⟨⟨#[98]⟩, ⟨#[121]⟩⟩]) (h2 : Itms x x.heap.size u [⟨⟨#[98]⟩, ⟨#[121]⟩⟩]) => isame_any _ _ v u x (by decide) (by decide) h h2)
  have hd : decide (([⟨⟨#[98]⟩, ⟨#[121]⟩⟩] : List Itm) = [⟨⟨#[98]⟩, ⟨#[121]⟩⟩]) = true := by simp
  rw [hd] at C7
  have ow := three_own (((w.alloc (.cells #[.int .u64 1, .string ⟨#[97]⟩, .string ⟨#[120]⟩, .bool false] 39)).alloc (.cells #[.int .u64 2, .string ⟨#[97]⟩, .string ⟨#[]⟩, .bool true] 39)).alloc (.cells #[.int .u64 1, .string ⟨#[98]⟩, .string ⟨#[121]⟩, .bool false] 39)) w.heap.size (by simp; omega)
  have rd := OwnW.read ow ex3_ok
  have qd := (((Q.refl w).alloc (.cells #[.int .u64 1, .string ⟨#[97]⟩, .string ⟨#[120]⟩, .bool false] 39)).alloc (.cells #[.int .u64 2, .string ⟨#[97]⟩, .string ⟨#[]⟩, .bool true] 39)).alloc (.cells #[.int .u64 1, .string ⟨#[98]⟩, .string ⟨#[121]⟩, .bool false] 39) |>.alloc (.cells #[.int .u64 1, .string ⟨#[97]⟩, .string ⟨#[120]⟩, .bool false, .int .u64 2, .string ⟨#[97]⟩, .string ⟨#[]⟩, .bool true, .int .u64 1, .string ⟨#[98]⟩, .string ⟨#[121]⟩, .bool false] 39)
  have ba := ((Bx.new w 39 #[.int .u64 1, .string ⟨#[97]⟩, .string ⟨#[120]⟩, .bool false]).alloc (.cells #[.int .u64 2, .string ⟨#[97]⟩, .string ⟨#[]⟩, .bool true] 39)).alloc (.cells #[.int .u64 1, .string ⟨#[98]⟩, .string ⟨#[121]⟩, .bool false] 39) |>.alloc (.cells #[.int .u64 1, .string ⟨#[97]⟩, .string ⟨#[120]⟩, .bool false, .int .u64 2, .string ⟨#[97]⟩, .string ⟨#[]⟩, .bool true, .int .u64 1, .string ⟨#[98]⟩, .string ⟨#[121]⟩, .bool false] 39)
  have hsz : (((w.alloc (.cells #[.int .u64 1, .string ⟨#[97]⟩, .string ⟨#[120]⟩, .bool false] 39)).alloc (.cells #[.int .u64 2, .string ⟨#[97]⟩, .string ⟨#[]⟩, .bool true] 39)).alloc (.cells #[.int .u64 1, .string ⟨#[98]⟩, .string ⟨#[121]⟩, .bool false] 39)).heap.size = w.heap.size + 1 + 1 + 1 := by simp
  obtain ⟨wd, hwd⟩ : ∃ z, z = (((w.alloc (.cells #[.int .u64 1, .string ⟨#[97]⟩, .string ⟨#[120]⟩, .bool false] 39)).alloc (.cells #[.int .u64 2, .string ⟨#[97]⟩, .string ⟨#[]⟩, .bool true] 39)).alloc (.cells #[.int .u64 1, .string ⟨#[98]⟩, .string ⟨#[121]⟩, .bool false] 39)).alloc (.cells #[.int .u64 1, .string ⟨#[97]⟩, .string ⟨#[120]⟩, .bool false, .int .u64 2, .string ⟨#[97]⟩, .string ⟨#[]⟩, .bool true, .int .u64 1, .string ⟨#[98]⟩, .string ⟨#[121]⟩, .bool false] 39) := ⟨_, rfl⟩
  rw [← hwd] at rd qd ba
  rw [hsz] at rd
  have R0 := Lib.hid rd
  have Q0 := Lib.hid qd
  have BA := Lib.hid ba
  clear ow rd qd ba hd hS hz hsz
  go_enter Try.func19, Try.ntmps19
  go_upto_region 3 with fail
  rw [← hwd]
  clear hwd
  go_wp2_with fail
  refine (C1.out _).mono ?_
  rintro e w1 ⟨v1, rfl, q1⟩
  have R1 := Lib.hid (R0.out.on q1)
  clear C1
  go_wp2_with fail
  refine (C2.out _ _ R1.out).mono ?_
  rintro e w2 ⟨rfl, q2⟩
  have R2 := Lib.hid (R1.out.on q2)
  clear C2
  go_wp2_with fail
  refine (C3.out _ _ R2.out).mono ?_
  rintro e w3 ⟨A3, c3, rfl, q3⟩
  have R3 := Lib.hid (R2.out.on q3)
  clear C3
  go_wp2_with fail
  refine (C4.out _ _ R3.out).mono ?_
  rintro e w4 ⟨v4, rfl, o4, q4⟩
  have R4 := Lib.hid (R3.out.on q4)
  have I4 := OwnI.read o4 okI_by
  have q5 := (Q.refl w4).alloc (.cells #[.string ⟨#[98]⟩, .string ⟨#[121]⟩] 58)
  have J5 := Lib.hid (OwnI.read (oneI_own w4) okI_by)
  have I5 := Lib.hid (I4.on q5)
  have R5 := Lib.hid (R4.out.on q5)
  clear C4 o4 I4
  go_wp2_with fail
  refine (C7.out _ _ _ I5.out J5.out).mono ?_
  rintro e w6 ⟨rfl, d6⟩
  have q6 := d6.q
  have R6 := Lib.hid (R5.out.on q6)
  have qq := ((((q1.trans q2).trans q3).trans q4).trans q5).trans q6
  have bb := BA.out.on qq
  have b0 := bb.cell 0
  have b1 := bb.cell 1
  have b2 := bb.cell 2
  have b3 := bb.cell 3
  simp only [List.getElem?_toArray, List.getElem?_cons_zero, List.getElem?_cons_succ] at b0 b1 b2 b3
  have q7 := (Q.refl w6).alloc (.cells #[.int .u64 1, .string ⟨#[97]⟩, .string ⟨#[120]⟩, .bool false] 39)
  have R7 := Lib.hid (R6.out.on q7)
  have J7 := Lib.hid (OwnW.read (one_own w6) okW_a)
  clear C7 I5 J5 d6 bb
  go_wp2_with fail
  refine (C5.out _ _ _ R7.out J7.out).mono ?_
  rintro e w8 ⟨A8, c8, rfl, q8⟩
  have R8 := Lib.hid (R7.out.on q8)
  clear C5 b0 b1 b2 b3
  go_wp2_with fail
  refine (C6.out _ _ R8.out).mono ?_
  rintro e w9 ⟨rfl, q9⟩
  go_wp2_with fail
  go_ret
  exact ⟨rfl, Q0.out.trans (((qq.trans q7).trans q8).trans q9)⟩
end Go.Proofs.Ythlbpjopkaninaa

namespace Go.Proofs.Ythlbpjopkaninaa
set_option maxRecDepth 100000
open Go.ChangeShapes Go.WideShapes Go.ChangeAt Go.RowKit
set_option linter.unusedVariables false
set_option linter.unusedSimpArgs false
theorem fewNs_okW {l : List Nte} (h : ∀ x ∈ l, okW x) : ∀ x ∈ fewNs l, okW x := by
  intro x hx
  have h2 := fewNs_ok x hx
  obtain ⟨y, hy, rfl⟩ := List.mem_map.1 hx
  exact ⟨(h y (List.mem_of_mem_take hy)).1, by unfold maxLen; omega, by unfold maxLen; omega, trivial⟩
theorem fewCs_okH {c : List Chg} : ∀ x ∈ fewCs c, okH x := fun x hx => by
  have h := fewCs_ok x hx
  exact ⟨by unfold maxLen; omega, by unfold maxLen; omega, trivial⟩
theorem cntN_okW {l : List Nte} (h : ∀ x ∈ l, okW x) : ∀ x ∈ cntN l, okW x := fun x hx => h x (cntN_sub hx)
theorem liveN_okW {all l : List Nte} (h : ∀ x ∈ l, okW x) : ∀ x ∈ liveN all l, okW x := fun x hx => h x (liveN_mem.1 hx).1
theorem liveN_le (all l : List Nte) : (liveN all l).length ≤ l.length := List.length_filter_le ..
theorem itN_okI {l : List Nte} (h : ∀ x ∈ l, okW x) : ∀ x ∈ itN l, okIZ x := fun x hx => by
  obtain ⟨y, hy, -, rfl⟩ := itN_mem.1 hx
  exact ⟨(h y (cntN_sub hy)).2.1, (h y (cntN_sub hy)).2.2.1⟩
theorem itN_le (l : List Nte) : (itN l).length ≤ l.length := by
  unfold itN
  rw [List.length_map]
  exact Nat.le_trans (List.length_filter_le ..) (cntN_len l)
theorem noneN_made (w : World) : OwnW w.heap.size (w.alloc (.cells #[] 39)) (.slice (some ⟨w.heap.size, 0, none⟩) 0 0) [] := World.ownsRow_made w #[] 0 (Nat.le_refl _) (by unfold maxLen; omega) (by simp)
end Go.Proofs.Ythlbpjopkaninaa

