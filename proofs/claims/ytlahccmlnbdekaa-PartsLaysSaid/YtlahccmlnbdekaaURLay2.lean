/-
  Contract of the document's Lay, whatever is handed in.
-/
import Derived.Test.YtlahccmlnbdekaaURLay
namespace Go.Proofs.Ytlahccmlnbdekaa
open Go.ChangeShapes Go.WideShapes Go.ChangeAt Go.RowKit
set_option linter.unusedVariables false
set_option linter.unusedSimpArgs false
set_option maxRecDepth 100000

set_option maxHeartbeats 4000000 in
/-- What is refused ahead of all. -/
theorem rlay_no (l : List Upl) (v : Value) (id : Nat) (p : Prt) (w : World) (r : List Upl) (t e : Nat) (h : LayC l id p r t e) (hs : smL l) (ht : Upls w w.heap.size v l)
    (hno : ¬ (okUps l ∧ mayP p = true) ∨ (∀ j (hl : j < l.length), l[j].id ≠ id)) :
    Calls Try.prog 13 #[v, .int .u64 (id : Nat), prt p] w fun z w' => ∃ u, z = .returned (.tuple #[u, .int .u32 (t : Nat), .int .i64 (e : Nat)]) ∧ Upls w' w'.heap.size u r ∧ Q w w' := by
  have M := Lib.hid fun d => rpart_any p d
  have q00 := (Q.refl w).alloc (.cells #[.int .i64 p.n, .string p.data] 25)
  obtain ⟨x, fe, hx⟩ := findC_ex l id
  have F := Lib.hid (rfindU_any l v id _ x fe hx hs (ht.on q00))
  simp only [upl] at F
  obtain ⟨A, c, rfl⟩ := ht.form
  obtain ⟨N, hN⟩ : ∃ N, l.length = N := ⟨_, rfl⟩
  have HK : Hid ((fe = 1 ∧ r = [] ∧ t = 0 ∧ e = 1) ∨ (fe ≠ 1 ∧ mayP p = false ∧ r = [] ∧ t = 0 ∧ e = 1) ∨ (fe = 4 ∧ mayP p = true ∧ r = [] ∧ t = 0 ∧ e = 4)) := Lib.hid (by
    cases hx with
    | arg h1 => exact .inl ⟨rfl, lay_arg h fun k => h1 k.1⟩
    | none h1 h2 =>
      cases hm : mayP p with
      | false => exact .inr (.inl ⟨by decide, rfl, lay_arg h fun k => by rw [hm] at k; simp at k⟩)
      | true => exact .inr (.inr ⟨rfl, rfl, lay_none h h1 hm h2⟩)
    | yes i hi h1 h2 h3 =>
      cases hm : mayP p with
      | false => exact .inr (.inl ⟨by decide, rfl, lay_arg h fun k => by rw [hm] at k; simp at k⟩)
      | true =>
        rcases hno with k | k
        · exact absurd ⟨h1, hm⟩ k
        · exact absurd h2 (k i hi))
  obtain ⟨y, d⟩ := p
  rw [prt] at M ⊢
  simp only at M F q00 ⊢
  have q01 := Lib.hid fun b (qb : Q (w.alloc (.cells #[.int .i64 y, .string d] 25)) b) => boxP_of qb
  rw [hN] at F ⊢
  clear h hs ht hno hx hN
  rcases HK.out with ⟨rfl, rfl, rfl, rfl⟩ | ⟨hf, hm, rfl, rfl, rfl⟩ | ⟨rfl, hm, rfl, rfl, rfl⟩
  · clear HK
    go_enter Try.func13, Try.ntmps13
    go_wp2_with fail
    refine (F.out).mono ?_
    rintro e w1 ⟨u, rfl, hu, q1⟩
    obtain ⟨A1, c1, rfl⟩ := hu.form
    have q2 := q00.trans (q1.alloc (.cells #[.int .u64 (x.id : Nat), .string x.key, .slice A1 x.L.length c1] 40))
    clear hu
    go_wp2
    refine bodyPost_ret (v := .tuple #[.slice none 0 0, .int .u32 0, .int .i64 1]) (by simp [results, Try.results13, go_sem]) rfl ⟨_, rfl, Upls.nil _ _, q2⟩
  · clear HK
    rw [hm] at M
    have hf1 : ¬ (fe : Int) = 1 := by omega
    clear hf hm
    go_enter Try.func13, Try.ntmps13
    go_wp2_with fail
    refine (F.out).mono ?_
    rintro e w1 ⟨u, rfl, hu, q1⟩
    obtain ⟨A1, c1, rfl⟩ := hu.form
    have q2 := q1.alloc (.cells #[.int .u64 (x.id : Nat), .string x.key, .slice A1 x.L.length c1] 40)
    obtain ⟨b0, b1⟩ := q01.out _ q2
    clear hu
    go_wp2_with fail
    refine (M.out _).mono ?_
    rintro e w3 ⟨rfl, q3⟩
    go_wp2
    refine bodyPost_ret (v := .tuple #[.slice none 0 0, .int .u32 0, .int .i64 1]) (by simp [results, Try.results13, go_sem]) rfl ⟨_, rfl, Upls.nil _ _, q00.trans (q2.trans q3)⟩
  · clear HK
    rw [hm] at M
    clear hm
    go_enter Try.func13, Try.ntmps13
    go_wp2_with fail
    refine (F.out).mono ?_
    rintro e w1 ⟨u, rfl, hu, q1⟩
    obtain ⟨A1, c1, rfl⟩ := hu.form
    have q2 := q1.alloc (.cells #[.int .u64 (x.id : Nat), .string x.key, .slice A1 x.L.length c1] 40)
    obtain ⟨b0, b1⟩ := q01.out _ q2
    clear hu
    go_wp2_with fail
    refine (M.out _).mono ?_
    rintro e w3 ⟨rfl, q3⟩
    go_wp2
    refine bodyPost_ret (v := .tuple #[.slice none 0 0, .int .u32 0, .int .i64 4]) (by simp [results, Try.results13, go_sem]) rfl ⟨_, rfl, Upls.nil _ _, q00.trans (q2.trans q3)⟩
theorem rlayU_any (l : List Upl) (v : Value) (id : Nat) (p : Prt) (w : World) (r : List Upl) (t e : Nat) (h : LayC l id p r t e) (hp : okP p) (hs : smL l) (ht : Upls w w.heap.size v l) :
    Calls Try.prog 13 #[v, .int .u64 (id : Nat), prt p] w fun z w' => ∃ u, z = .returned (.tuple #[u, .int .u32 (t : Nat), .int .i64 (e : Nat)]) ∧ Upls w' w'.heap.size u r ∧ Q w w' := by
  by_cases hok : okUps l ∧ mayP p = true
  · rcases where_id l id with ⟨-, k⟩ | ⟨i, hi, -, k, m⟩
    · exact rlay_no l v id p w r t e h hs ht (.inr k)
    · exact rlay_core l v id i p w r t e h hp hs ht hi hok.1 hok.2 k m
  · exact rlay_no l v id p w r t e h hs ht (.inl hok)
end Go.Proofs.Ytlahccmlnbdekaa
