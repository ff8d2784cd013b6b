/-
  Contract of the statements' awake.
-/
import Derived.Test.YtlahccmlnbdekaaUPlain
namespace Go.Proofs.Ytlahccmlnbdekaa
open Go.ChangeShapes Go.WideShapes Go.ChangeAt Go.RowKit
set_option linter.unusedVariables false
set_option linter.unusedSimpArgs false
set_option maxRecDepth 100000

theorem OwnP.nm {base : Nat} {w : World} {v : Value} {l : List Prt} (h : OwnP base w v l) : ∃ A n c, v = .slice A n c := by
  obtain ⟨A, c, e⟩ := h.form; exact ⟨A, _, c, e⟩
theorem okPs1 : ∀ x ∈ P123, okP x := by
  intro x hx
  simp only [P123, List.mem_cons, List.not_mem_nil, or_false] at hx
  rcases hx with rfl | rfl | rfl <;> (refine ⟨by decide, by decide, by decide +kernel⟩)
theorem okPs2 : ∀ x ∈ P123', okP x := by
  intro x hx
  simp only [P123', List.mem_cons, List.not_mem_nil, or_false] at hx
  rcases hx with rfl | rfl | rfl <;> (refine ⟨by decide, by decide, by decide +kernel⟩)
theorem okC_k {x : Nat} (h : x < 4294967296) : okC ⟨1, x⟩ ∧ okC ⟨2, x⟩ := ⟨⟨by show (_ : Int) ≤ 1; omega, by show (1 : Int) ≤ _; omega, h⟩, ⟨by show (_ : Int) ≤ 2; omega, by show (2 : Int) ≤ _; omega, h⟩⟩
theorem bl_sWH : mk (bl sWH) = sWH := rfl
set_option maxHeartbeats 8000000 in
theorem awakeU_any (w : World) : Calls Try.prog 21 #[] w fun e w' => e = .returned (.bool true) ∧ Q w w' := by
  obtain ⟨T, hW1⟩ := wh1
  have B0 := Lib.hid fun d => beginU_any [] (.slice none 0 0) 1 kK d _ 0 bg0 (by exact ⟨by simp, by simp⟩) (by decide +kernel) (Upls.nil _ _)
  have L1 := Lib.hid fun (v : Value) d (h : Upls d d.heap.size v [⟨1, kK, []⟩]) => layU_any _ v 1 ⟨2, tH⟩ d _ _ 0 ly1 (by refine ⟨by decide, by decide, by decide +kernel⟩) (okUps_sm (beginC_ok bg0)) h
  have L2 := Lib.hid fun (v : Value) d (h : Upls d d.heap.size v [⟨1, kK, P2⟩]) => layU_any _ v 1 ⟨1, tW⟩ d _ _ 0 ly2 (by refine ⟨by decide, by decide, by decide +kernel⟩) (okUps_sm (layC_ok ly1)) h
  have L3 := Lib.hid fun (v : Value) d (h : Upls d d.heap.size v [⟨1, kK, P12⟩]) => layU_any _ v 1 ⟨3, tF⟩ d _ _ 0 ly3 (by refine ⟨by decide, by decide, by decide +kernel⟩) (okUps_sm (layC_ok ly2)) h
  have L4 := Lib.hid fun (v : Value) d (h : Upls d d.heap.size v [⟨1, kK, P123⟩]) => layU_any _ v 1 ⟨1, tF⟩ d _ _ 0 ly4 (by refine ⟨by decide, by decide, by decide +kernel⟩) (okUps_sm (layC_ok ly3)) h
  have D1 := Lib.hid fun (v : Value) d (h : Upls d d.heap.size v [⟨1, kK, P123⟩]) => findU_any _ v 1 d _ 0 fd1 (okUps_sm (layC_ok ly3)) h
  have D2 := Lib.hid fun (v : Value) d (h : Upls d d.heap.size v [⟨1, kK, P123'⟩]) => findU_any _ v 1 d _ 0 fd2 (okUps_sm (layC_ok ly4)) h
  have W1 := Lib.hid fun (v z : Value) d (h : Prts d d.heap.size v P123) hz => whole_any ⟨1, kK, P123⟩ v _ z d _ T 0 hW1 (okUp_sm okU1) (by simp) h hz
  have W2 := Lib.hid fun (v z : Value) d (h : Prts d d.heap.size v P123) hz => whole_any ⟨1, kK, P123⟩ v _ z d _ _ 9 wh2 (okUp_sm okU1) (by simp) h hz
  have W3 := Lib.hid fun (v z : Value) d (h : Prts d d.heap.size v P123') hz => whole_any ⟨1, kK, P123'⟩ v _ z d _ _ 3 wh3 (okUp_sm okU2) (by simp) h hz
  simp only [upl, prt, bl_sWH] at L1 L2 L3 L4 D1 D2 W1 W2 W3
  have ha := crc_lt (bl tH)
  have hb := crc_lt (bl tW)
  have hc := crc_lt (bl tF)
  obtain ⟨a, ea⟩ : ∃ a, a = crc (bl tH) := ⟨_, rfl⟩
  obtain ⟨b, eb⟩ : ∃ b, b = crc (bl tW) := ⟨_, rfl⟩
  obtain ⟨c, ec⟩ : ∃ c, c = crc (bl tF) := ⟨_, rfl⟩
  rw [← ea] at L1 W1 W2 W3 ha
  rw [← eb] at L2 W1 W2 hb
  rw [← ec] at L3 L4 W3 hc
  have PC := Lib.hid fun (d : World) (n : Int) (x : Nat) (m : Int) (y : Nat) (h : okC ⟨n, x⟩ ∧ okC ⟨m, y⟩) => pces_two d ⟨n, x⟩ ⟨m, y⟩ h.1 h.2
  simp only at PC
  have O1 : Hid (okC ⟨1, b⟩ ∧ okC ⟨2, a⟩) := Lib.hid ⟨(okC_k hb).1, (okC_k ha).2⟩
  have O2 : Hid (okC ⟨2, a⟩ ∧ okC ⟨1, b⟩) := Lib.hid ⟨(okC_k ha).2, (okC_k hb).1⟩
  have O3 : Hid (okC ⟨1, c⟩ ∧ okC ⟨2, a⟩) := Lib.hid ⟨(okC_k hc).1, (okC_k ha).2⟩
  obtain ⟨t0, hT⟩ : ∃ t, t = mk T := ⟨_, rfl⟩
  have TE : (mk [] : ByteArray) = ⟨#[]⟩ := rfl
  rw [← hT] at W1
  rw [TE] at W2 W3
  clear ea eb ec hT hW1 ha hb hc TE
  have n1 : ((1 : Nat) : Int) = 1 := rfl
  have n0 : ((0 : Nat) : Int) = 0 := rfl
  have n9 : ((9 : Nat) : Int) = 9 := rfl
  have n3 : ((3 : Nat) : Int) = 3 := rfl
  simp only [tH, tW, tF, kK, sWH, n1, n0, n9, n3] at B0 L1 L2 L3 L4 D1 D2 W1 W2 W3
  clear n1 n0 n9 n3
  go_enter Try.func21, Try.ntmps21
  go_wp2_with fail
  refine (B0.out _).mono ?_
  rintro e w1 ⟨u1, rfl, h1, q1⟩
  obtain ⟨A1, c1, rfl⟩ := h1.form
  go_wp2_with fail
  refine (L1.out _ _ h1).mono ?_
  rintro e w2 ⟨u2, rfl, h2, q2⟩
  obtain ⟨A2, c2, rfl⟩ := h2.form
  go_wp2_with fail
  refine (L2.out _ _ h2).mono ?_
  rintro e w3 ⟨u3, rfl, h3, q3⟩
  obtain ⟨A3, c3, rfl⟩ := h3.form
  go_wp2_with fail
  refine (L3.out _ _ h3).mono ?_
  rintro e w4 ⟨u4, rfl, h4, q4⟩
  obtain ⟨A4, c4, rfl⟩ := h4.form
  go_wp2_with fail
  refine (D1.out _ _ h4).mono ?_
  rintro e w5 ⟨u5, rfl, o5, q5⟩
  obtain ⟨A5, n5, c5, rfl⟩ := o5.nm
  have p5 := o5.read okPs1
  clear o5
  have f5 := (Q.refl w5).alloc (.cells #[.int .u64 1, .string ⟨#[107]⟩, .slice A5 n5 c5] 40)
  have z1 := PC.out (w5.alloc (.cells #[.int .u64 1, .string ⟨#[107]⟩, .slice A5 n5 c5] 40)) 1 b 2 a O1.out
  rw [World.size_alloc] at z1
  have z2 := z1.more (B' := ((w5.alloc (.cells #[.int .u64 1, .string ⟨#[107]⟩, .slice A5 n5 c5] 40)).alloc (.cells #[.int .i64 1, .int .u32 (b : Nat), .int .i64 2, .int .u32 (a : Nat)] 65)).heap.size) (by simp)
  have z3 := Lib.hid z2
  clear z1 z2
  have p6 := p5.on (f5.alloc (.cells #[.int .i64 1, .int .u32 (b : Nat), .int .i64 2, .int .u32 (a : Nat)] 65))
  go_wp2_with fail
  refine (W1.out _ _ _ p6 z3.out).mono ?_
  rintro e w6 ⟨rfl, q6⟩
  have g6 := ((Q.refl (w5.alloc (.cells #[.int .u64 1, .string ⟨#[107]⟩, .slice A5 n5 c5] 40))).alloc (.cells #[.int .i64 1, .int .u32 (b : Nat), .int .i64 2, .int .u32 (a : Nat)] 65)).trans q6
  obtain ⟨k0, k1, k2⟩ := boxU_of g6
  have y1 := PC.out w6 2 a 1 b O2.out
  have y2 := y1.more (B' := (w6.alloc (.cells #[.int .i64 2, .int .u32 (a : Nat), .int .i64 1, .int .u32 (b : Nat)] 65)).heap.size) (by simp)
  have y3 := Lib.hid y2
  clear y1 y2
  have p7 := p5.on ((f5.trans g6).alloc (.cells #[.int .i64 2, .int .u32 (a : Nat), .int .i64 1, .int .u32 (b : Nat)] 65))
  go_wp2_with fail
  refine (W2.out _ _ _ p7 y3.out).mono ?_
  rintro e w7 ⟨rfl, q7⟩
  have g7 := (g6.alloc (.cells #[.int .i64 2, .int .u32 (a : Nat), .int .i64 1, .int .u32 (b : Nat)] 65)).trans q7
  have r7 := f5.trans g7
  have h7 := h4.on (q5.trans r7)
  clear k0 k1 k2
  go_wp2_with fail
  refine (L4.out _ _ h7).mono ?_
  rintro e w8 ⟨u8, rfl, h8, q8⟩
  obtain ⟨A8, c8, rfl⟩ := h8.form
  go_wp2_with fail
  refine (D2.out _ _ h8).mono ?_
  rintro e w9 ⟨u9, rfl, o9, q9⟩
  obtain ⟨A9, n9, c9, rfl⟩ := o9.nm
  have p9 := o9.read okPs2
  clear o9
  have f9 := (Q.refl w9).alloc (.cells #[.int .u64 1, .string ⟨#[107]⟩, .slice A9 n9 c9] 40)
  have x1 := PC.out (w9.alloc (.cells #[.int .u64 1, .string ⟨#[107]⟩, .slice A9 n9 c9] 40)) 1 c 2 a O3.out
  rw [World.size_alloc] at x1
  have x2 := x1.more (B' := ((w9.alloc (.cells #[.int .u64 1, .string ⟨#[107]⟩, .slice A9 n9 c9] 40)).alloc (.cells #[.int .i64 1, .int .u32 (c : Nat), .int .i64 2, .int .u32 (a : Nat)] 65)).heap.size) (by simp)
  have x3 := Lib.hid x2
  clear x1 x2
  have p10 := p9.on (f9.alloc (.cells #[.int .i64 1, .int .u32 (c : Nat), .int .i64 2, .int .u32 (a : Nat)] 65))
  go_wp2_with fail
  refine (W3.out _ _ _ p10 x3.out).mono ?_
  rintro e w10 ⟨rfl, q10⟩
  have qe : Q w w10 := q1.trans (q2.trans (q3.trans (q4.trans (q5.trans (r7.trans (q8.trans (q9.trans ((f9.alloc (.cells #[.int .i64 1, .int .u32 (c : Nat), .int .i64 2, .int .u32 (a : Nat)] 65)).trans q10))))))))
  go_wp2
  go_ret
  exact ⟨rfl, qe⟩
end Go.Proofs.Ytlahccmlnbdekaa
