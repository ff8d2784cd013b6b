/-
  The statements' awake of layer 11.
-/
import Derived.Test.YtbilnomafloopaaGreatIAwk4
namespace Go.Proofs.YtbilnomafloopaaGreat
set_option maxRecDepth 100000
open Go.ChangeShapes Go.WideShapes Go.ChangeAt Go.RowKit
set_option linter.unusedVariables false
set_option linter.unusedSimpArgs false

theorem diff_self {A : List Itm} {c : List Chg} (h : DiffIs A A c) : c = [] := by
  cases c with
  | nil => rfl
  | cons x r =>
    exfalso
    rcases (h.2 x).1 (by simp) with ⟨y, hy, hn, -⟩ | ⟨y, hy, hn, -⟩
    · exact hn hy
    · exact hn y hy rfl
set_option maxHeartbeats 4000000 in
theorem awakeI_any (w : World) : Calls Tryz.prog 14 #[] w fun e w' => e = .returned (.bool true) ∧ Q w w' := by
  have C1 := Lib.hid of0_any
  have C2 := Lib.hid (fun x => build0_any [] (.slice none 0 0) x false (by simp) (by simp) (by simp) (Itms.nil _ _))
  have C3 := Lib.hid (fun (x : World) (v : Value) (h : Itms x x.heap.size v [itT]) => build0_any [itT] v x true (by simp) (by simp) (by simp) h)
  have C4 := Lib.hid same0_any
  have C5 := Lib.hid (fun (x : World) (v : Value) (h : Itms x x.heap.size v [itT]) => diff_any [itT] [itT] v v x (by simp) (by simp) h h)
  have hb2 : bE false = 2 := rfl
  have hb0 : bE true = 0 := rfl
  rw [hb2] at C2
  rw [hb0] at C3
  go_enter Tryz.func14, Tryz.ntmps14
  go_wp2_with fail
  refine (C1.out _).mono ?_
  rintro e w1 ⟨v1, rfl, o1, q1⟩
  have rd := OwnI.read o1 (fun x hx => by rw [List.mem_singleton] at hx; rw [hx]; exact itT_ok)
  obtain ⟨A, c, rfl⟩ := rd.form
  have R1 := Lib.hid rd
  have hlen : [itT].length = 1 := rfl
  rw [hlen] at R1
  rw [hlen]
  clear C1 rd o1
  go_wp2_with fail
  refine (C2.out _).mono ?_
  rintro e w2 ⟨rfl, q2⟩
  have b2 := Bx.new w2 24 #[.int .i64 0, .slice none 0 0]
  have q3 := (Q.refl w2).alloc (.cells #[.int .i64 0, .slice none 0 0] 24)
  have R2 := Lib.hid ((R1.out.on q2).on q3)
  clear C2
  go_wp2_with fail
  refine (C3.out _ _ R2.out).mono ?_
  rintro e w3 ⟨rfl, q4⟩
  have b3 := Bx.new w3 24 #[.int .i64 0, .slice none 0 0]
  have q5 := (Q.refl w3).alloc (.cells #[.int .i64 0, .slice none 0 0] 24)
  have R3 := Lib.hid ((R2.out.on q4).on q5)
  have k0 := b3.cell 0
  have k1 := b3.cell 1
  simp only [List.getElem?_toArray, List.getElem?_cons_zero, List.getElem?_cons_succ] at k0 k1
  clear C3
  go_wp2_with fail
  refine (C4.out _).mono ?_
  rintro e w4 ⟨rfl, q6⟩
  have R4 := Lib.hid (R3.out.on q6)
  clear C4
  go_wp2_with fail
  refine (C5.out _ _ R4.out).mono ?_
  rintro e w5 ⟨v5, rfl, d5, o5, hd, q7⟩
  have hd2 := diff_self hd
  subst hd2
  obtain ⟨A5, c5, rfl⟩ := o5.form
  have hl0 : ([] : List Chg).length = 0 := rfl
  rw [hl0]
  clear C5 hd o5
  go_wp2_with fail
  go_ret
  exact ⟨rfl, ((((q1.trans q2).trans q3).trans q4).trans q5).trans (q6.trans q7)⟩
end Go.Proofs.YtbilnomafloopaaGreat
