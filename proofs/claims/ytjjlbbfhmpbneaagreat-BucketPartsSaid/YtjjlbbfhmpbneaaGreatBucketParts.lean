/-
  Proved: whatever bucket, key and texts BucketParts is called with, it returns true and leaves what it was given as it was. No condition.
-/
import Derived.Test.YtjjlbbfhmpbneaaGreatKz
import Derived.Test.YtjjlbbfhmpbneaaGreatKza
import Derived.Test.YtjjlbbfhmpbneaaGreatKw
import Derived.Test.YtjjlbbfhmpbneaaGreatKy
namespace Go.Proofs.YtjjlbbfhmpbneaaGreat.bucketParts
set_option maxRecDepth 100000
open Go.ChangeShapes Go.WideShapes Go.ChangeAt Go.RowKit Go.Shelf
open Go.ChangeMaps (open_string shut_string)
set_option linter.unusedVariables false
set_option linter.unusedSimpArgs false

theorem piece_lit (w : World) (x : Pce) : OwnC w.heap.size (w.alloc (.cells #[.int .i64 x.n, .int .u32 (x.tag : Nat)] 67)) (.slice (some ⟨w.heap.size, 0, none⟩) 1 1) [x] :=
  World.ownsRow_lit w #[.int .i64 x.n, .int .u32 (x.tag : Nat)] 1 (Nat.le_refl _) (by decide) rfl
/-- What the loop keeps. -/
def PIn (w wr : World) (pb px : Nat) (B X : Bkt) (ky : ByteArray) (n i : Nat) (L : List Prt) (W : ByteArray) (A : Option Addr) (PP : List Pce) (c : Nat) : Prop :=
  (okB B ∧ okB X ∧ hasO 1 60 ko ky = true ∧ X = upB B ky L ∧ W = mk (datsB L) ∧ PP = pcsB L ∧ L.length = i ∧ ∀ p ∈ L, (n : Int) - i < p.n ∧ 5 ≤ p.data.size ∧ p.data.size ≤ 200) ∧ BoxB wr pb B ∧ BoxB wr px X ∧ Q w wr ∧ Pces wr wr.heap.size (.slice A PP.length c) PP ∧ pb ≠ px ∧ w.heap.size ≤ pb ∧ w.heap.size ≤ px
theorem dats_le {L : List Prt} (h : ∀ p ∈ L, p.data.size ≤ 200) : (datsB L).length ≤ 200 * L.length := by
  induction L with
  | nil => simp [datsB]
  | cons a r ih =>
    have h1 := ih fun p hp => h p (List.mem_cons_of_mem _ hp)
    have h2 := h a List.mem_cons_self
    rw [datsB_cons, List.length_append, List.length_cons, bl_length]
    omega
theorem bkt_id {X B : Bkt} {ky : ByteArray} {L : List Prt} (h : X = upB B ky L) : X.last = B.last + 1 := by rw [h]; rfl
set_option maxHeartbeats 32000000 in
set_option maxRecDepth 100000 in
theorem walk (b : Bkt) (lv uv : Value) (key : ByteArray) (l : List ByteArray) (v : Value) (w : World) (hin : InB w b lv uv) (wk : key.size ≤ maxLen) (t2 : Txts w w.heap.size v l) (z2 : l.length ≤ maxLen) (s2 : ∀ s ∈ l, s.size ≤ 140737488351232) :
    Calls Tryz.prog 6 #[bkt b lv uv, .string key, v] w fun e w' => e = .returned (.bool true) ∧ Q w w' := by
  obtain ⟨hv, hn, hl, hu, -, -, -⟩ := hin
  obtain ⟨A1, c1, rfl⟩ := hv.1.form
  obtain ⟨A2, c2, rfl⟩ := hv.2.form
  have T2 := Lib.hid t2
  obtain ⟨AL, cL, rfl, -⟩ := t2
  have S2 := Lib.hid s2
  have q0 : Q w (w.alloc (.cells (bcl b (.slice A1 b.L.length c1) (.slice A2 b.U.length c2)) 26)) := (Q.refl w).alloc _
  have Z : Hid (BoxB (w.alloc (.cells (bcl b (.slice A1 b.L.length c1) (.slice A2 b.U.length c2)) 26)) w.heap.size b) := Lib.hid (BoxB.new hv)
  have FB := Lib.hid (fewB_any b (.slice A1 b.L.length c1) (.slice A2 b.U.length c2) (w.alloc (.cells (bcl b (.slice A1 b.L.length c1) (.slice A2 b.U.length c2)) 26)) hn hl hu (hv.on q0))
  have FS := Lib.hid fun d => fewS_any key d wk
  obtain ⟨sn, sE, sU⟩ := fewB_small b
  have hks := fewS_size key
  obtain ⟨B, hB⟩ : ∃ B, B = fewB b := ⟨_, rfl⟩
  obtain ⟨ky, hky⟩ : ∃ k, k = fewS key := ⟨_, rfl⟩
  rw [← hB] at FB sn sE sU
  rw [← hky] at FS hks
  simp only [bkt] at FB
  clear hn hl hu hv hB hky wk s2
  rw [bkt]
  obtain ⟨d, n, t, s, k, hF⟩ := finC_ex B (R := BegR B ky) (by obtain ⟨d, m, k, h⟩ := wbeg_ex B 0 ky; exact ⟨d, m, 0, noS, k, h, rfl, rfl⟩)
  have BE := Lib.hid fun x lv uv (hx : BktV x B lv uv) => bBegin_any B lv uv x ky d n t s k hF sn sE sU (by omega) hx
  have SM := Lib.hid fun x lv uv lx ux (hx : BktV x B lv uv) (hy : BktV x B lx ux) => rsameB_yes B lv uv lx ux x sE sU hx hy
  have AW := Lib.hid fun x => awakeB_any x
  have HF := Lib.hid hF
  have HKS := Lib.hid hks
  simp only [bkt] at BE SM
  clear hF sn sE sU hks
  go_enter Tryz.func6, Tryz.ntmps6
  go_wp2_with fail
  refine (FB.out).mono ?_
  rintro e w1 ⟨A, c, A', c', rfl, v1, q1⟩
  go_wp2_with fail
  refine (FS.out _).mono ?_
  rintro e w2 ⟨rfl, rfl⟩
  obtain ⟨g1, g2, g3, g4, hbb, hvv⟩ := Z.out.on q1
  obtain ⟨k0, k1, k2, k3, k4⟩ := bx_bkt hbb
  obtain ⟨f0, f1, f2, f3, f4⟩ := bkt_frozen hbb
  have hh : BoxB w1 w.heap.size b := ⟨g1, g2, g3, g4, hbb, hvv⟩
  obtain ⟨nB, gk⟩ := hh.store v1
  have nq := gk.q (q0.trans q1) (Nat.le_refl _)
  clear FB FS Z
  go_upto_region 2 with fail
  have K := Lib.hid (And.intro nB nq)
  obtain ⟨x1, hx1⟩ : ∃ x, x = (((((w1.setCell ⟨w.heap.size, 0, none⟩ (.string B.name)).setCell ⟨w.heap.size, 1, none⟩ (.int .i64 B.st)).setCell ⟨w.heap.size, 2, none⟩ (.slice A B.L.length c)).setCell ⟨w.heap.size, 3, none⟩ (.slice A' B.U.length c')).setCell ⟨w.heap.size, 4, none⟩ (.int .u64 (B.last : Nat))) := ⟨_, rfl⟩
  rw [← hx1] at K ⊢
  clear hx1 nB gk nq hh hbb hvv k0 k1 k2 k3 k4 f0 f1 f2 f3 f4 v1 q0 q1
  obtain ⟨pb, hpb⟩ : ∃ p, p = w.heap.size := ⟨_, rfl⟩
  have HPB : Hid (w.heap.size ≤ pb) := Lib.hid (by omega)
  rw [← hpb] at K ⊢
  clear hpb
  obtain ⟨g1, g2, g3, g4, hbb, hvv⟩ := K.out.1
  obtain ⟨k0, k1, k2, k3, k4⟩ := bx_bkt hbb
  have C := Lib.hid (BE.out _ _ _ hvv)
  clear hbb hvv BE
  go_wp2_with fail
  refine (C.out).mono ?_
  rintro e w3 ⟨A3, c3, A4, c4, rfl, v3, q3⟩
  clear C k0 k1 k2 k3 k4
  go_upto_region 3 with fail
  have K3 : Hid (BoxB (w3.alloc (.cells #[.string d.name, .int .i64 d.st, .slice A3 d.L.length c3, .slice A4 d.U.length c4, .int .u64 (d.last : Nat)] 26)) w3.heap.size d ∧ BoxB (w3.alloc (.cells #[.string d.name, .int .i64 d.st, .slice A3 d.L.length c3, .slice A4 d.U.length c4, .int .u64 (d.last : Nat)] 26)) pb B ∧ Q w (w3.alloc (.cells #[.string d.name, .int .i64 d.st, .slice A3 d.L.length c3, .slice A4 d.U.length c4, .int .u64 (d.last : Nat)] 26)) ∧ pb ≠ w3.heap.size ∧ w.heap.size ≤ w3.heap.size) := Lib.hid ⟨BoxB.new v3, (K.out.1.on q3).on ((Q.refl _).alloc _), (K.out.2.trans q3).alloc _, Nat.ne_of_lt (K.out.1.on q3).lt, (K.out.2.trans q3).size⟩
  obtain ⟨x3, hx3⟩ : ∃ x, x = (w3.alloc (.cells #[.string d.name, .int .i64 d.st, .slice A3 d.L.length c3, .slice A4 d.U.length c4, .int .u64 (d.last : Nat)] 26)) := ⟨_, rfl⟩
  rw [← hx3] at K3 ⊢
  obtain ⟨px, hpx⟩ : ∃ p, p = w3.heap.size := ⟨_, rfl⟩
  rw [← hpx] at K3 ⊢
  clear hx3 hpx v3 q3 K
  by_cases hk : k ≠ 0
  · have hk1 : ((k : Int) != 0) = true := by simpa using hk
    obtain ⟨e1, -, -, -⟩ := fin_err HF.out hk
    subst e1
    obtain ⟨g1, g2, g3, g4, hbb, hvv⟩ := K3.out.1
    obtain ⟨k0, k1, k2, k3, k4⟩ := bx_bkt hbb
    obtain ⟨g5, g6, g7, g8, hbc, hvc⟩ := K3.out.2.1
    obtain ⟨l0, l1, l2, l3, l4⟩ := bx_bkt hbc
    have C := Lib.hid (SM.out _ _ _ _ _ hvv hvc)
    have NQ := Lib.hid K3.out.2.2.1
    clear hbb hvv hbc hvc hk HF K3
    go_wp2_with fail
    refine (C.out).mono ?_
    rintro e w4 ⟨rfl, q4⟩
    have NQ4 := Lib.hid (NQ.out.trans q4)
    go_wp2_with fail
    refine (AW.out _).mono ?_
    rintro e w9 ⟨rfl, q9⟩
    have nq := NQ4.out.trans q9
    go_wp2
    go_ret
    exact ⟨rfl, nq⟩
  have hk9 : k = 0 := by omega
  have hk2 : ((k : Int) != 0) = false := by rw [hk9]; rfl
  have HF9 := HF.out
  rw [hk9] at HF9
  obtain ⟨okb, okd, hok, hd, hnn⟩ := beg_zero HF9
  clear hk hk9 HF9
  have HS : Hid (PIn w x3 pb px B d ky l.length 0 [] ⟨#[]⟩ none [] 0) := Lib.hid ⟨⟨okb, okd, hok, hd, rfl, rfl, rfl, by simp⟩, K3.out.2.1, K3.out.1, K3.out.2.2.1, Pces.nil _ _, K3.out.2.2.2.1, HPB.out, K3.out.2.2.2.2⟩
  obtain rfl : n = d.last := by rw [hnn, hd]; rfl
  obtain ⟨ID, hID⟩ : ∃ z, z = d.last := ⟨_, rfl⟩
  rw [← hID]
  have HID : Hid (ID = B.last + 1) := Lib.hid (by rw [hID, hnn])
  clear okb okd hok hd hnn hID HF K3 HPB
  go_wp2_with fail
  clear hk2
  go_loopw [10, 11, 12, 13, 14, 15, 16, 17] (fun T P I _ _ _ _ _ wr => ∃ (i : Nat) (L : List Prt) (X : Bkt) (W : ByteArray) (A : Option Addr) (PP : List Pce) (c : Nat), i ≤ 8 ∧ i ≤ l.length ∧ I = .int .i64 i ∧ T = .string W ∧ P = .slice A PP.length c ∧ Hid (PIn w wr pb px B X ky l.length i L W A PP c)) (fun _ _ I _ _ _ _ _ _ => 8 - (intOf I).toNat)
  case atStart => exact ⟨0, [], d, ⟨#[]⟩, none, [], 0, by omega, by omega, rfl, rfl, rfl, HS⟩
  case round =>
    obtain ⟨i, L, X, W, A, PP, c, hi8, hil, rfl, rfl, rfl, HR⟩ := hrel
    clear HS
    have END : Hid (∀ (y : World), y = wr → True) := Lib.hid fun _ _ => trivial
    by_cases hend : ¬ (i < l.length ∧ i < 8)
    · have hlz : l.length ≤ maxLen := z2
      have HEND : Hid (¬ (i < l.length ∧ i < 8)) := Lib.hid hend
      by_cases hlt : ¬ i < l.length
      · have hilt : ¬ (i : Int) < (l.length : Int) := by omega
        obtain ⟨⟨okb, okx, hok, hX, hW, hPP, hLi, hLall⟩, -⟩ := HR.out
        obtain ⟨d2, n2, t2, s2, k2, hF2⟩ := finC_ex X (R := WhoR X ID PP 1099511627775) (by obtain ⟨d, m, s, k, h⟩ := wwho_ex X 0 ID PP 1099511627775; exact ⟨d, m, 0, s, k, h, rfl⟩)
        have WHO : Hid (okB d2 ∧ ((k2 = 1 ∧ PP = [] ∧ d2 = X) ∨ ((k2 = 6 ∧ d2 = X) ∨ (k2 = 0 ∧ d2.U.length = B.U.length ∧ ∃ id r, getE d2.L ky = ⟨id, W, false, 1099511627775⟩ :: r)))) := Lib.hid (by
          have h1 := hF2
          rw [hX, hPP, HID.out] at h1
          have h2 := who_up okb (by rw [← hX]; exact okx) hok (fun p hp => (hLall p hp).2.1) h1
          rw [← hX, ← hW] at h2
          obtain ⟨h2, ⟨a1, a2, a3⟩ | ⟨-, ⟨a1, a2⟩ | ⟨a1, a2, a3⟩⟩⟩ := h2
          · exact ⟨h2, .inl ⟨a1, by rw [hPP, a2]; rfl, a3⟩⟩
          · exact ⟨h2, .inr (.inl ⟨a1, a2⟩)⟩
          · exact ⟨h2, .inr (.inr ⟨a1, a2, a3⟩)⟩)
        have hPl : PP.length ≤ 8 := by rw [hPP, pcsB, List.length_map]; omega
        have smx := sm_of okx
        obtain ⟨g1, g2, g3, g4, hbb, hvv⟩ := HR.out.2.2.1
        obtain ⟨k0, k1, k2', k3, k4⟩ := bx_bkt hbb
        have C := Lib.hid (bWhole_any X _ _ wr ID PP A c 1099511627775 d2 n2 t2 s2 k2 hF2 smx.1 smx.2.1 smx.2.2 (by omega) (by decide) (by decide) HR.out.2.2.2.2.1 hvv)
        have SMX := Lib.hid fun x lv uv lx ux (hx : BktV x X lv uv) (hy : BktV x X lx ux) => rsameB_yes X lv uv lx ux x smx.2.1 smx.2.2 hx hy
        simp only [bkt] at C SMX
        have HOK := Lib.hid hok
        clear hbb hvv smx hF2 okb okx hok hX hW hPP hLi hLall hend HEND hil hi8
        go_wp2_with fail
        refine (C.out).mono ?_
        rintro e w4 ⟨A5, c5, A6, c6, rfl, v5, q5⟩
        clear C k0 k1 k2' k3 k4
        go_upto_region 25 with fail
        have K5 : Hid (BoxB (w4.alloc (.cells #[.string d2.name, .int .i64 d2.st, .slice A5 d2.L.length c5, .slice A6 d2.U.length c6, .int .u64 (d2.last : Nat)] 26)) w4.heap.size d2 ∧ BoxB (w4.alloc (.cells #[.string d2.name, .int .i64 d2.st, .slice A5 d2.L.length c5, .slice A6 d2.U.length c6, .int .u64 (d2.last : Nat)] 26)) px X ∧ BoxB (w4.alloc (.cells #[.string d2.name, .int .i64 d2.st, .slice A5 d2.L.length c5, .slice A6 d2.U.length c6, .int .u64 (d2.last : Nat)] 26)) pb B ∧ Q w (w4.alloc (.cells #[.string d2.name, .int .i64 d2.st, .slice A5 d2.L.length c5, .slice A6 d2.U.length c6, .int .u64 (d2.last : Nat)] 26))) := Lib.hid ⟨BoxB.new v5, (HR.out.2.2.1.on q5).on ((Q.refl _).alloc _), (HR.out.2.1.on q5).on ((Q.refl _).alloc _), (HR.out.2.2.2.1.trans q5).alloc _⟩
        obtain ⟨x5, hx5⟩ : ∃ x, x = (w4.alloc (.cells #[.string d2.name, .int .i64 d2.st, .slice A5 d2.L.length c5, .slice A6 d2.U.length c6, .int .u64 (d2.last : Nat)] 26)) := ⟨_, rfl⟩
        rw [← hx5] at K5 ⊢
        obtain ⟨py, hpy⟩ : ∃ p, p = w4.heap.size := ⟨_, rfl⟩
        rw [← hpy] at K5 ⊢
        clear hx5 hpy v5 q5 HR
        have OKD := Lib.hid WHO.out.1
        rcases WHO.out.2 with ⟨rfl, hPn, rfl⟩ | ⟨rfl, rfl⟩ | ⟨rfl, hul, id, r, hge⟩
        · have hp0 : ((PP.length : Int) == 0) = true := by rw [hPn]; rfl
          clear hPn hPl WHO
          obtain ⟨g1, g2, g3, g4, hbb, hvv⟩ := K5.out.1
          obtain ⟨k0, k1, k2, k3, k4⟩ := bx_bkt hbb
          obtain ⟨g5, g6, g7, g8, hbc, hvc⟩ := K5.out.2.1
          obtain ⟨l0, l1, l2, l3, l4⟩ := bx_bkt hbc
          have C := Lib.hid (SMX.out _ _ _ _ _ hvv hvc)
          clear hbb hvv hbc hvc
          go_wp2_with fail
          refine (C.out).mono ?_
          rintro e w6 ⟨rfl, q6⟩
          go_wp2_with fail
          refine (AW.out _).mono ?_
          rintro e w9 ⟨rfl, q9⟩
          have nq := (K5.out.2.2.2.trans q6).trans q9
          go_wp2
          go_ret
          exact ⟨rfl, nq⟩
        · clear WHO hPl
          obtain ⟨g1, g2, g3, g4, hbb, hvv⟩ := K5.out.1
          obtain ⟨k0, k1, k2, k3, k4⟩ := bx_bkt hbb
          obtain ⟨g5, g6, g7, g8, hbc, hvc⟩ := K5.out.2.1
          obtain ⟨l0, l1, l2, l3, l4⟩ := bx_bkt hbc
          have C := Lib.hid (SMX.out _ _ _ _ _ hvv hvc)
          clear hbb hvv hbc hvc
          go_wp2_with fail
          refine (C.out).mono ?_
          rintro e w6 ⟨rfl, q6⟩
          go_wp2_with fail
          refine (AW.out _).mono ?_
          rintro e w9 ⟨rfl, q9⟩
          have nq := (K5.out.2.2.2.trans q6).trans q9
          go_wp2
          go_ret
          exact ⟨rfl, nq⟩
        · clear WHO hPl SMX
          obtain ⟨g1, g2, g3, g4, hbb, hvv⟩ := K5.out.1
          obtain ⟨k0, k1, k2, k3, k4⟩ := bx_bkt hbb
          have smd := sm_of OKD.out
          have C := bGet_yes d2 _ _ x5 ky OKD.out HOK.out smd.1 smd.2.1 smd.2.2 (by have := HKS.out; omega) hvv
          rw [hge] at C
          simp only [bkt, List.head?_cons, findR, ver, Bool.false_eq_true, ↓reduceIte] at C
          have CC := Lib.hid C
          have HUL := Lib.hid hul
          clear C smd hbb hvv hge hul
          go_wp2_with fail
          refine (CC.out).mono ?_
          rintro e w6 ⟨rfl, q6⟩
          clear CC k0 k1 k2 k3 k4
          go_upto_region 28 with fail
          have VB := Lib.hid (Bx.new w6 49 #[.int .u64 (id : Nat), .string W, .bool false, .int .i64 1099511627775])
          have q7 := q6.alloc (.cells #[.int .u64 (id : Nat), .string W, .bool false, .int .i64 1099511627775] 49)
          have K7 := Lib.hid (And.intro (K5.out.1.on q7) (And.intro (K5.out.2.2.1.on q7) (K5.out.2.2.2.trans q7)))
          obtain ⟨x7, hx7⟩ : ∃ z, z = w6.alloc (.cells #[.int .u64 (id : Nat), .string W, .bool false, .int .i64 1099511627775] 49) := ⟨_, rfl⟩
          rw [← hx7] at K7 VB ⊢
          obtain ⟨pv, hpv⟩ : ∃ z, z = w6.heap.size := ⟨_, rfl⟩
          rw [← hpv] at VB ⊢
          clear hx7 hpv q6 q7 K5
          obtain ⟨⟨a0, a1, a2, a3⟩, -⟩ := bx_ver VB.out
          obtain ⟨g1, g2, g3, g4, hbb, -⟩ := K7.out.1
          obtain ⟨k0, k1, k2, k3, k4⟩ := bx_bkt hbb
          obtain ⟨g5, g6, g7, g8, hbc, -⟩ := K7.out.2.1
          obtain ⟨l0, l1, l2, l3, l4⟩ := bx_bkt hbc
          have hww : (W.toList == W.toList) = true := by simp
          have hlen : ((d2.U.length : Int) == (B.U.length : Int)) = true := by rw [HUL.out]; simp
          clear hbb hbc HUL
          go_wp2_with fail
          refine (AW.out _).mono ?_
          rintro e w9 ⟨rfl, q9⟩
          have nq := K7.out.2.2.trans q9
          go_wp2
          go_ret
          exact ⟨rfl, nq⟩
      have hlt : i < l.length := by omega
      have hilt : (i : Int) < (l.length : Int) := by omega
      have hi4 : ¬ (i : Int) < 8 := by omega
      obtain ⟨⟨okb, okx, hok, hX, hW, hPP, hLi, hLall⟩, -⟩ := HR.out
      obtain ⟨d2, n2, t2, s2, k2, hF2⟩ := finC_ex X (R := WhoR X ID PP 1099511627775) (by obtain ⟨d, m, s, k, h⟩ := wwho_ex X 0 ID PP 1099511627775; exact ⟨d, m, 0, s, k, h, rfl⟩)
      have WHO : Hid (okB d2 ∧ ((k2 = 1 ∧ PP = [] ∧ d2 = X) ∨ ((k2 = 6 ∧ d2 = X) ∨ (k2 = 0 ∧ d2.U.length = B.U.length ∧ ∃ id r, getE d2.L ky = ⟨id, W, false, 1099511627775⟩ :: r)))) := Lib.hid (by
        have h1 := hF2
        rw [hX, hPP, HID.out] at h1
        have h2 := who_up okb (by rw [← hX]; exact okx) hok (fun p hp => (hLall p hp).2.1) h1
        rw [← hX, ← hW] at h2
        obtain ⟨h2, ⟨a1, a2, a3⟩ | ⟨-, ⟨a1, a2⟩ | ⟨a1, a2, a3⟩⟩⟩ := h2
        · exact ⟨h2, .inl ⟨a1, by rw [hPP, a2]; rfl, a3⟩⟩
        · exact ⟨h2, .inr (.inl ⟨a1, a2⟩)⟩
        · exact ⟨h2, .inr (.inr ⟨a1, a2, a3⟩)⟩)
      have hPl : PP.length ≤ 8 := by rw [hPP, pcsB, List.length_map]; omega
      have smx := sm_of okx
      obtain ⟨g1, g2, g3, g4, hbb, hvv⟩ := HR.out.2.2.1
      obtain ⟨k0, k1, k2', k3, k4⟩ := bx_bkt hbb
      have C := Lib.hid (bWhole_any X _ _ wr ID PP A c 1099511627775 d2 n2 t2 s2 k2 hF2 smx.1 smx.2.1 smx.2.2 (by omega) (by decide) (by decide) HR.out.2.2.2.2.1 hvv)
      have SMX := Lib.hid fun x lv uv lx ux (hx : BktV x X lv uv) (hy : BktV x X lx ux) => rsameB_yes X lv uv lx ux x smx.2.1 smx.2.2 hx hy
      simp only [bkt] at C SMX
      have HOK := Lib.hid hok
      clear hbb hvv smx hF2 okb okx hok hX hW hPP hLi hLall hend HEND hil hi8
      go_wp2_with fail
      refine (C.out).mono ?_
      rintro e w4 ⟨A5, c5, A6, c6, rfl, v5, q5⟩
      clear C k0 k1 k2' k3 k4
      go_upto_region 25 with fail
      have K5 : Hid (BoxB (w4.alloc (.cells #[.string d2.name, .int .i64 d2.st, .slice A5 d2.L.length c5, .slice A6 d2.U.length c6, .int .u64 (d2.last : Nat)] 26)) w4.heap.size d2 ∧ BoxB (w4.alloc (.cells #[.string d2.name, .int .i64 d2.st, .slice A5 d2.L.length c5, .slice A6 d2.U.length c6, .int .u64 (d2.last : Nat)] 26)) px X ∧ BoxB (w4.alloc (.cells #[.string d2.name, .int .i64 d2.st, .slice A5 d2.L.length c5, .slice A6 d2.U.length c6, .int .u64 (d2.last : Nat)] 26)) pb B ∧ Q w (w4.alloc (.cells #[.string d2.name, .int .i64 d2.st, .slice A5 d2.L.length c5, .slice A6 d2.U.length c6, .int .u64 (d2.last : Nat)] 26))) := Lib.hid ⟨BoxB.new v5, (HR.out.2.2.1.on q5).on ((Q.refl _).alloc _), (HR.out.2.1.on q5).on ((Q.refl _).alloc _), (HR.out.2.2.2.1.trans q5).alloc _⟩
      obtain ⟨x5, hx5⟩ : ∃ x, x = (w4.alloc (.cells #[.string d2.name, .int .i64 d2.st, .slice A5 d2.L.length c5, .slice A6 d2.U.length c6, .int .u64 (d2.last : Nat)] 26)) := ⟨_, rfl⟩
      rw [← hx5] at K5 ⊢
      obtain ⟨py, hpy⟩ : ∃ p, p = w4.heap.size := ⟨_, rfl⟩
      rw [← hpy] at K5 ⊢
      clear hx5 hpy v5 q5 HR
      have OKD := Lib.hid WHO.out.1
      rcases WHO.out.2 with ⟨rfl, hPn, rfl⟩ | ⟨rfl, rfl⟩ | ⟨rfl, hul, id, r, hge⟩
      · have hp0 : ((PP.length : Int) == 0) = true := by rw [hPn]; rfl
        clear hPn hPl WHO
        obtain ⟨g1, g2, g3, g4, hbb, hvv⟩ := K5.out.1
        obtain ⟨k0, k1, k2, k3, k4⟩ := bx_bkt hbb
        obtain ⟨g5, g6, g7, g8, hbc, hvc⟩ := K5.out.2.1
        obtain ⟨l0, l1, l2, l3, l4⟩ := bx_bkt hbc
        have C := Lib.hid (SMX.out _ _ _ _ _ hvv hvc)
        clear hbb hvv hbc hvc
        go_wp2_with fail
        refine (C.out).mono ?_
        rintro e w6 ⟨rfl, q6⟩
        go_wp2_with fail
        refine (AW.out _).mono ?_
        rintro e w9 ⟨rfl, q9⟩
        have nq := (K5.out.2.2.2.trans q6).trans q9
        go_wp2
        go_ret
        exact ⟨rfl, nq⟩
      · clear WHO hPl
        obtain ⟨g1, g2, g3, g4, hbb, hvv⟩ := K5.out.1
        obtain ⟨k0, k1, k2, k3, k4⟩ := bx_bkt hbb
        obtain ⟨g5, g6, g7, g8, hbc, hvc⟩ := K5.out.2.1
        obtain ⟨l0, l1, l2, l3, l4⟩ := bx_bkt hbc
        have C := Lib.hid (SMX.out _ _ _ _ _ hvv hvc)
        clear hbb hvv hbc hvc
        go_wp2_with fail
        refine (C.out).mono ?_
        rintro e w6 ⟨rfl, q6⟩
        go_wp2_with fail
        refine (AW.out _).mono ?_
        rintro e w9 ⟨rfl, q9⟩
        have nq := (K5.out.2.2.2.trans q6).trans q9
        go_wp2
        go_ret
        exact ⟨rfl, nq⟩
      · clear WHO hPl SMX
        obtain ⟨g1, g2, g3, g4, hbb, hvv⟩ := K5.out.1
        obtain ⟨k0, k1, k2, k3, k4⟩ := bx_bkt hbb
        have smd := sm_of OKD.out
        have C := bGet_yes d2 _ _ x5 ky OKD.out HOK.out smd.1 smd.2.1 smd.2.2 (by have := HKS.out; omega) hvv
        rw [hge] at C
        simp only [bkt, List.head?_cons, findR, ver, Bool.false_eq_true, ↓reduceIte] at C
        have CC := Lib.hid C
        have HUL := Lib.hid hul
        clear C smd hbb hvv hge hul
        go_wp2_with fail
        refine (CC.out).mono ?_
        rintro e w6 ⟨rfl, q6⟩
        clear CC k0 k1 k2 k3 k4
        go_upto_region 28 with fail
        have VB := Lib.hid (Bx.new w6 49 #[.int .u64 (id : Nat), .string W, .bool false, .int .i64 1099511627775])
        have q7 := q6.alloc (.cells #[.int .u64 (id : Nat), .string W, .bool false, .int .i64 1099511627775] 49)
        have K7 := Lib.hid (And.intro (K5.out.1.on q7) (And.intro (K5.out.2.2.1.on q7) (K5.out.2.2.2.trans q7)))
        obtain ⟨x7, hx7⟩ : ∃ z, z = w6.alloc (.cells #[.int .u64 (id : Nat), .string W, .bool false, .int .i64 1099511627775] 49) := ⟨_, rfl⟩
        rw [← hx7] at K7 VB ⊢
        obtain ⟨pv, hpv⟩ : ∃ z, z = w6.heap.size := ⟨_, rfl⟩
        rw [← hpv] at VB ⊢
        clear hx7 hpv q6 q7 K5
        obtain ⟨⟨a0, a1, a2, a3⟩, -⟩ := bx_ver VB.out
        obtain ⟨g1, g2, g3, g4, hbb, -⟩ := K7.out.1
        obtain ⟨k0, k1, k2, k3, k4⟩ := bx_bkt hbb
        obtain ⟨g5, g6, g7, g8, hbc, -⟩ := K7.out.2.1
        obtain ⟨l0, l1, l2, l3, l4⟩ := bx_bkt hbc
        have hww : (W.toList == W.toList) = true := by simp
        have hlen : ((d2.U.length : Int) == (B.U.length : Int)) = true := by rw [HUL.out]; simp
        clear hbb hbc HUL
        go_wp2_with fail
        refine (AW.out _).mono ?_
        rintro e w9 ⟨rfl, q9⟩
        have nq := K7.out.2.2.trans q9
        go_wp2
        go_ret
        exact ⟨rfl, nq⟩
    have hlt : i < l.length := by omega
    have hilt : (i : Int) < (l.length : Int) := by omega
    have hi4 : (i : Int) < 8 := by omega
    clear hend END
    obtain ⟨A9, c9, e9, hat⟩ := T2.out
    injection e9 with e1 e2 e3
    subst e1 e3
    obtain ⟨a, rfl, hab, hcell⟩ := hat i hlt
    have hc0 : wr.cell? (a.add i) = some (.string l[i]) := (T2.out.on HR.out.2.2.2.1) |> fun h => by
      obtain ⟨A8, c8, e8, hat8⟩ := h
      injection e8 with e1 e2 e3
      subst e1
      obtain ⟨a', ea, -, hc⟩ := hat8 i hlt
      injection ea with ea
      subst ea
      exact hc
    clear hat hab hcell e2
    obtain ⟨z, hz⟩ : ∃ z, z = l[i] := ⟨_, rfl⟩
    have hzs : z.size ≤ 140737488351232 := by rw [hz]; exact S2.out _ (List.getElem_mem hlt)
    rw [← hz] at hc0
    clear hz
    go_upto_region 11 with fail
    obtain ⟨S0, hS0⟩ : ∃ x, x = ((⟨#[112, 97, 114, 116, 115, 32]⟩ : ByteArray) ++ z) := ⟨_, rfl⟩
    have h6 : 6 ≤ S0.size := by rw [hS0, ByteArray.size_append]; show 6 ≤ 6 + z.size; omega
    have hbig : S0.size ≤ 200000000000000 := by rw [hS0, ByteArray.size_append]; show 6 + z.size ≤ _; omega
    rw [← hS0]
    clear hS0 hzs hc0
    by_cases h200 : 200 < S0.size
    · have h200' : (200 : Int) < (S0.size : Int) := by omega
      obtain ⟨S, hS⟩ : ∃ D, D = S0.extract 0 200 := ⟨_, rfl⟩
      have hs5 : 5 ≤ S.size ∧ S.size ≤ 200 := by rw [hS, size_cut _ (by omega)]; omega
      have HD := Lib.hid hS
      clear hS
      go_upto_region 13 with fail
      rw [← HD.out]
      clear HD h200 h200' h6 hbig
      have HS5 := Lib.hid hs5
      clear hs5
      go_upto_region 14 with fail
      have hwr : wrap64 ((l.length : Int) - (i : Int)) = (l.length : Int) - (i : Int) := by
        have hz9 := z2
        unfold maxLen at hz9
        unfold wrap64; omega
      rw [hwr]
      clear hwr
      obtain ⟨N, hN⟩ : ∃ z : Int, z = (l.length : Int) - (i : Int) := ⟨_, rfl⟩
      have hN1 : 1 ≤ N := by omega
      rw [← hN]
      by_cases hb : 1000 < N
      · clear hN
        go_wp2_with fail
        refine (AW.out _).mono ?_
        rintro e w9 ⟨rfl, q9⟩
        have nq := HR.out.2.2.2.1.trans q9
        go_wp2
        go_ret
        exact ⟨rfl, nq⟩
      have HP : Hid (okPt ⟨N, S⟩ ∧ mayP ⟨N, S⟩ = true) := Lib.hid ⟨⟨by show _ ≤ N; omega, by show N ≤ _; omega, by show S.size ≤ _; have := HS5.out; unfold maxLen; omega⟩, mayP_iff.2 ⟨hN1, by show N ≤ 1000; omega, by show S.size ≤ 2000; have := HS5.out; omega⟩⟩
      have HN : Hid (N = (l.length : Int) - (i : Int)) := Lib.hid hN
      clear hN hN1
      obtain ⟨d2, n2, t2, s2, k2, hF2⟩ := finC_ex X (R := LayR X ID ⟨N, S⟩) (by obtain ⟨d, t, k, h⟩ := wlay_ex X ID ⟨N, S⟩; exact ⟨d, 0, t, noS, k, h, rfl, rfl⟩)
      have LAY : Hid ((k2 = 0 ∧ d2 = upB B ky (⟨N, S⟩ :: L) ∧ okB d2 ∧ t2 = crc (bl S)) ∨ k2 = 6) := Lib.hid (by
        obtain ⟨⟨okb, okx, hok, hX, hW, hPP, hLi, hLall⟩, -⟩ := HR.out
        have h1 := hF2
        rw [hX, HID.out] at h1
        exact lay_up okb (by rw [← hX]; exact okx) HP.out.2 (fun p hp => by have := (hLall p hp).1; have := HN.out; show N < p.n; omega) (by omega) h1)
      have smx := sm_of HR.out.1.2.1
      obtain ⟨g1, g2, g3, g4, hbb, hvv⟩ := HR.out.2.2.1
      obtain ⟨k0, k1, k2', k3, k4⟩ := bx_bkt hbb
      have C := Lib.hid (bLay_any X _ _ wr ID N S d2 n2 t2 s2 k2 hF2 smx.1 smx.2.1 smx.2.2 HP.out.1 hvv)
      simp only [bkt] at C
      clear hbb hvv smx hF2
      go_wp2_with fail
      refine (C.out).mono ?_
      rintro e w4 ⟨A5, c5, A6, c6, rfl, v5, q5⟩
      clear C k0 k1 k2' k3 k4
      go_upto_region 17 with fail
      have K5 : Hid (BoxB (w4.alloc (.cells #[.string d2.name, .int .i64 d2.st, .slice A5 d2.L.length c5, .slice A6 d2.U.length c6, .int .u64 (d2.last : Nat)] 26)) w4.heap.size d2 ∧ BoxB (w4.alloc (.cells #[.string d2.name, .int .i64 d2.st, .slice A5 d2.L.length c5, .slice A6 d2.U.length c6, .int .u64 (d2.last : Nat)] 26)) px X ∧ BoxB (w4.alloc (.cells #[.string d2.name, .int .i64 d2.st, .slice A5 d2.L.length c5, .slice A6 d2.U.length c6, .int .u64 (d2.last : Nat)] 26)) pb B ∧ Q w (w4.alloc (.cells #[.string d2.name, .int .i64 d2.st, .slice A5 d2.L.length c5, .slice A6 d2.U.length c6, .int .u64 (d2.last : Nat)] 26)) ∧ Pces (w4.alloc (.cells #[.string d2.name, .int .i64 d2.st, .slice A5 d2.L.length c5, .slice A6 d2.U.length c6, .int .u64 (d2.last : Nat)] 26)) (w4.alloc (.cells #[.string d2.name, .int .i64 d2.st, .slice A5 d2.L.length c5, .slice A6 d2.U.length c6, .int .u64 (d2.last : Nat)] 26)).heap.size (.slice A PP.length c) PP ∧ w4.heap.size ≠ px) := Lib.hid ⟨BoxB.new v5, (HR.out.2.2.1.on q5).on ((Q.refl _).alloc _), (HR.out.2.1.on q5).on ((Q.refl _).alloc _), (HR.out.2.2.2.1.trans q5).alloc _, HR.out.2.2.2.2.1.on (q5.alloc _), Nat.ne_of_gt (HR.out.2.2.1.on q5).lt⟩
      have HC := Lib.hid (And.intro HR.out.1 HR.out.2.2.2.2.2)
      obtain ⟨x5, hx5⟩ : ∃ x, x = (w4.alloc (.cells #[.string d2.name, .int .i64 d2.st, .slice A5 d2.L.length c5, .slice A6 d2.U.length c6, .int .u64 (d2.last : Nat)] 26)) := ⟨_, rfl⟩
      rw [← hx5] at K5 ⊢
      obtain ⟨py, hpy⟩ : ∃ p, p = w4.heap.size := ⟨_, rfl⟩
      rw [← hpy] at K5 ⊢
      clear hx5 hpy v5 q5 HR
      rcases LAY.out with ⟨rfl, hd2, okd2, rfl⟩ | rfl
      case inr =>
        clear LAY
        go_wp2_with fail
        refine (AW.out _).mono ?_
        rintro e w9 ⟨rfl, q9⟩
        have nq := K5.out.2.2.2.1.trans q9
        go_wp2
        go_ret
        exact ⟨rfl, nq⟩
      have HD2 := Lib.hid (And.intro hd2 okd2)
      clear hd2 okd2 LAY
      obtain ⟨T, hT⟩ : ∃ z, z = crc (bl S) := ⟨_, rfl⟩
      have OF : Hid (∀ x : World, Calls Tryz.prog 25 #[.string S] x fun e w' => e = .returned (.int .u32 (T : Nat)) ∧ x = w') := Lib.hid fun x => by rw [hT]; exact rof_any S x (by have := HS5.out; omega)
      have HT : Hid (T = crc (bl S)) := Lib.hid hT
      rw [← hT]
      clear hT
      obtain ⟨g1, g2, g3, g4, hbb, hvv⟩ := K5.out.1
      obtain ⟨k0, k1, k2, k3, k4⟩ := bx_bkt hbb
      obtain ⟨g5, g6, g7, g8, hbc, hvc⟩ := K5.out.2.1
      obtain ⟨l0, l1, l2, l3, l4⟩ := bx_bkt hbc
      obtain ⟨f0, f1, f2, f3, f4⟩ := bkt_frozen hbc
      obtain ⟨nB, gB⟩ := K5.out.2.1.store hvv
      have cm := K5.out.2.1.calm
      have K6 : Hid (BoxB _ px d2 ∧ BoxB _ pb B ∧ Q w _ ∧ Pces _ _ (.slice A PP.length c) PP) := Lib.hid ⟨nB, K5.out.2.2.1.kp cm gB HC.out.2.1, gB.q K5.out.2.2.2.1 HC.out.2.2.2, K5.out.2.2.2.2.1.kp cm gB⟩
      clear nB gB cm hbb hvv hbc hvc
      go_upto_region 20 with fail
      obtain ⟨x6, hx6⟩ : ∃ z, z = (((((x5.setCell ⟨px, 0, none⟩ (.string d2.name)).setCell ⟨px, 1, none⟩ (.int .i64 d2.st)).setCell ⟨px, 2, none⟩ (.slice g1 d2.L.length g2)).setCell ⟨px, 3, none⟩ (.slice g3 d2.U.length g4)).setCell ⟨px, 4, none⟩ (.int .u64 (d2.last : Nat))) := ⟨_, rfl⟩
      rw [← hx6] at K6 ⊢
      clear hx6 k0 k1 k2 k3 k4 l0 l1 l2 l3 l4 f0 f1 f2 f3 f4 K5
      have hWS : W.size ≤ 2000 := by
        obtain ⟨⟨-, -, -, -, hW, -, hLi, hLall⟩, -⟩ := HC.out
        have := dats_le fun p hp => (hLall p hp).2.2
        rw [hW, mk_size]; omega
      have hSS : S.size ≤ 200 := HS5.out.2
      have hPl : PP.length ≤ 8 := by
        obtain ⟨⟨-, -, -, -, -, hPP, hLi, -⟩, -⟩ := HC.out
        rw [hPP, pcsB, List.length_map]; omega
      go_upto_region 21 with fail
      obtain ⟨W2, hW2⟩ : ∃ z, z = S ++ W := ⟨_, rfl⟩
      rw [← hW2]
      have HW2 := Lib.hid hW2
      clear hW2 hWS hSS
      go_wp2_with fail
      refine (OF.out _).mono ?_
      rintro e w7 ⟨rfl, rfl⟩
      have HO := Lib.hid (piece_lit x6 ⟨N, T⟩)
      have HPC := Lib.hid (K6.out.2.2.2.on ((Q.refl x6).alloc (.cells #[.int .i64 N, .int .u32 (T : Nat)] 67)))
      have hTl : T < 4294967296 := by rw [HT.out]; exact crc_lt _
      go_wp2_with (at_builtin; refine wpList_append_pce _ rfl _ _ 27 Tryz.underlying27 rfl x6.heap.size _ _ [⟨N, T⟩] PP rfl rfl HO.out HPC.out ?hb ?ha ?_; (case hb => simp); (case ha => (try simp); omega); intro v8 w8 o8 g8; have b8 := HO.out.grown ((Q.refl x6).alloc (.cells #[.int .i64 N, .int .u32 (T : Nat)] 67)) (by simp) g8; have okp := K6.out.2.2.2.okAll; have hv8 := o8.read (fun x hx => by rcases List.mem_append.1 hx with hx | hx; (obtain rfl : x = ⟨N, T⟩ := by simpa using hx); exact ⟨HP.out.1.1, HP.out.1.2.1, hTl⟩; exact okp x hx); have hf8 := o8.form; clear g8 o8; obtain ⟨A8, c8, rfl⟩ := hf8)
      refine (OF.out _).mono ?_
      rintro e w9 ⟨rfl, rfl⟩
      have HN2 : Hid (PIn w w8 pb px B d2 ky l.length (i + 1) (⟨N, S⟩ :: L) W2 A8 ([⟨N, T⟩] ++ PP) c8) := Lib.hid (by
        obtain ⟨⟨okb, okx, hok, hX, hW, hPP, hLi, hLall⟩, hr⟩ := HC.out
        obtain ⟨hd2, okd2⟩ := HD2.out
        refine ⟨⟨okb, okd2, hok, hd2, ?_, ?_, ?_, ?_⟩, K6.out.2.1.on b8, K6.out.1.on b8, K6.out.2.2.1.trans b8, hv8, hr⟩
        · rw [HW2.out, hW, datsB_cons]; apply bl_inj; rw [bl_append]; rfl
        · rw [hPP, HT.out]; rfl
        · rw [List.length_cons, hLi]
        · intro p hp
          rcases List.mem_cons.1 hp with rfl | hp
          · exact ⟨by have := HN.out; show _ < N; omega, HS5.out.1, HS5.out.2⟩
          · obtain ⟨h1, h2⟩ := hLall p hp
            exact ⟨by omega, h2⟩)
      clear hv8 b8 okp HPC HO K6
      go_wp2
      go_roundw
      case rel => exact ⟨i + 1, _, d2, W2, A8, [⟨N, T⟩] ++ PP, c8, by omega, by omega, by go_num, rfl, rfl, HN2⟩
      case measure => simp [intOf]; omega
    · have h200' : ¬ (200 : Int) < (S0.size : Int) := by omega
      have hs5 : 5 ≤ S0.size ∧ S0.size ≤ 200 := by omega
      go_upto_region 13 with fail
      clear h200 h200' h6 hbig
      obtain ⟨S, hS⟩ : ∃ D, D = S0 := ⟨_, rfl⟩
      rw [← hS] at hs5 ⊢
      have HS5 := Lib.hid hs5
      clear hs5 hS
      go_upto_region 14 with fail
      have hwr : wrap64 ((l.length : Int) - (i : Int)) = (l.length : Int) - (i : Int) := by
        have hz9 := z2
        unfold maxLen at hz9
        unfold wrap64; omega
      rw [hwr]
      clear hwr
      obtain ⟨N, hN⟩ : ∃ z : Int, z = (l.length : Int) - (i : Int) := ⟨_, rfl⟩
      have hN1 : 1 ≤ N := by omega
      rw [← hN]
      by_cases hb : 1000 < N
      · clear hN
        go_wp2_with fail
        refine (AW.out _).mono ?_
        rintro e w9 ⟨rfl, q9⟩
        have nq := HR.out.2.2.2.1.trans q9
        go_wp2
        go_ret
        exact ⟨rfl, nq⟩
      have HP : Hid (okPt ⟨N, S⟩ ∧ mayP ⟨N, S⟩ = true) := Lib.hid ⟨⟨by show _ ≤ N; omega, by show N ≤ _; omega, by show S.size ≤ _; have := HS5.out; unfold maxLen; omega⟩, mayP_iff.2 ⟨hN1, by show N ≤ 1000; omega, by show S.size ≤ 2000; have := HS5.out; omega⟩⟩
      have HN : Hid (N = (l.length : Int) - (i : Int)) := Lib.hid hN
      clear hN hN1
      obtain ⟨d2, n2, t2, s2, k2, hF2⟩ := finC_ex X (R := LayR X ID ⟨N, S⟩) (by obtain ⟨d, t, k, h⟩ := wlay_ex X ID ⟨N, S⟩; exact ⟨d, 0, t, noS, k, h, rfl, rfl⟩)
      have LAY : Hid ((k2 = 0 ∧ d2 = upB B ky (⟨N, S⟩ :: L) ∧ okB d2 ∧ t2 = crc (bl S)) ∨ k2 = 6) := Lib.hid (by
        obtain ⟨⟨okb, okx, hok, hX, hW, hPP, hLi, hLall⟩, -⟩ := HR.out
        have h1 := hF2
        rw [hX, HID.out] at h1
        exact lay_up okb (by rw [← hX]; exact okx) HP.out.2 (fun p hp => by have := (hLall p hp).1; have := HN.out; show N < p.n; omega) (by omega) h1)
      have smx := sm_of HR.out.1.2.1
      obtain ⟨g1, g2, g3, g4, hbb, hvv⟩ := HR.out.2.2.1
      obtain ⟨k0, k1, k2', k3, k4⟩ := bx_bkt hbb
      have C := Lib.hid (bLay_any X _ _ wr ID N S d2 n2 t2 s2 k2 hF2 smx.1 smx.2.1 smx.2.2 HP.out.1 hvv)
      simp only [bkt] at C
      clear hbb hvv smx hF2
      go_wp2_with fail
      refine (C.out).mono ?_
      rintro e w4 ⟨A5, c5, A6, c6, rfl, v5, q5⟩
      clear C k0 k1 k2' k3 k4
      go_upto_region 17 with fail
      have K5 : Hid (BoxB (w4.alloc (.cells #[.string d2.name, .int .i64 d2.st, .slice A5 d2.L.length c5, .slice A6 d2.U.length c6, .int .u64 (d2.last : Nat)] 26)) w4.heap.size d2 ∧ BoxB (w4.alloc (.cells #[.string d2.name, .int .i64 d2.st, .slice A5 d2.L.length c5, .slice A6 d2.U.length c6, .int .u64 (d2.last : Nat)] 26)) px X ∧ BoxB (w4.alloc (.cells #[.string d2.name, .int .i64 d2.st, .slice A5 d2.L.length c5, .slice A6 d2.U.length c6, .int .u64 (d2.last : Nat)] 26)) pb B ∧ Q w (w4.alloc (.cells #[.string d2.name, .int .i64 d2.st, .slice A5 d2.L.length c5, .slice A6 d2.U.length c6, .int .u64 (d2.last : Nat)] 26)) ∧ Pces (w4.alloc (.cells #[.string d2.name, .int .i64 d2.st, .slice A5 d2.L.length c5, .slice A6 d2.U.length c6, .int .u64 (d2.last : Nat)] 26)) (w4.alloc (.cells #[.string d2.name, .int .i64 d2.st, .slice A5 d2.L.length c5, .slice A6 d2.U.length c6, .int .u64 (d2.last : Nat)] 26)).heap.size (.slice A PP.length c) PP ∧ w4.heap.size ≠ px) := Lib.hid ⟨BoxB.new v5, (HR.out.2.2.1.on q5).on ((Q.refl _).alloc _), (HR.out.2.1.on q5).on ((Q.refl _).alloc _), (HR.out.2.2.2.1.trans q5).alloc _, HR.out.2.2.2.2.1.on (q5.alloc _), Nat.ne_of_gt (HR.out.2.2.1.on q5).lt⟩
      have HC := Lib.hid (And.intro HR.out.1 HR.out.2.2.2.2.2)
      obtain ⟨x5, hx5⟩ : ∃ x, x = (w4.alloc (.cells #[.string d2.name, .int .i64 d2.st, .slice A5 d2.L.length c5, .slice A6 d2.U.length c6, .int .u64 (d2.last : Nat)] 26)) := ⟨_, rfl⟩
      rw [← hx5] at K5 ⊢
      obtain ⟨py, hpy⟩ : ∃ p, p = w4.heap.size := ⟨_, rfl⟩
      rw [← hpy] at K5 ⊢
      clear hx5 hpy v5 q5 HR
      rcases LAY.out with ⟨rfl, hd2, okd2, rfl⟩ | rfl
      case inr =>
        clear LAY
        go_wp2_with fail
        refine (AW.out _).mono ?_
        rintro e w9 ⟨rfl, q9⟩
        have nq := K5.out.2.2.2.1.trans q9
        go_wp2
        go_ret
        exact ⟨rfl, nq⟩
      have HD2 := Lib.hid (And.intro hd2 okd2)
      clear hd2 okd2 LAY
      obtain ⟨T, hT⟩ : ∃ z, z = crc (bl S) := ⟨_, rfl⟩
      have OF : Hid (∀ x : World, Calls Tryz.prog 25 #[.string S] x fun e w' => e = .returned (.int .u32 (T : Nat)) ∧ x = w') := Lib.hid fun x => by rw [hT]; exact rof_any S x (by have := HS5.out; omega)
      have HT : Hid (T = crc (bl S)) := Lib.hid hT
      rw [← hT]
      clear hT
      obtain ⟨g1, g2, g3, g4, hbb, hvv⟩ := K5.out.1
      obtain ⟨k0, k1, k2, k3, k4⟩ := bx_bkt hbb
      obtain ⟨g5, g6, g7, g8, hbc, hvc⟩ := K5.out.2.1
      obtain ⟨l0, l1, l2, l3, l4⟩ := bx_bkt hbc
      obtain ⟨f0, f1, f2, f3, f4⟩ := bkt_frozen hbc
      obtain ⟨nB, gB⟩ := K5.out.2.1.store hvv
      have cm := K5.out.2.1.calm
      have K6 : Hid (BoxB _ px d2 ∧ BoxB _ pb B ∧ Q w _ ∧ Pces _ _ (.slice A PP.length c) PP) := Lib.hid ⟨nB, K5.out.2.2.1.kp cm gB HC.out.2.1, gB.q K5.out.2.2.2.1 HC.out.2.2.2, K5.out.2.2.2.2.1.kp cm gB⟩
      clear nB gB cm hbb hvv hbc hvc
      go_upto_region 20 with fail
      obtain ⟨x6, hx6⟩ : ∃ z, z = (((((x5.setCell ⟨px, 0, none⟩ (.string d2.name)).setCell ⟨px, 1, none⟩ (.int .i64 d2.st)).setCell ⟨px, 2, none⟩ (.slice g1 d2.L.length g2)).setCell ⟨px, 3, none⟩ (.slice g3 d2.U.length g4)).setCell ⟨px, 4, none⟩ (.int .u64 (d2.last : Nat))) := ⟨_, rfl⟩
      rw [← hx6] at K6 ⊢
      clear hx6 k0 k1 k2 k3 k4 l0 l1 l2 l3 l4 f0 f1 f2 f3 f4 K5
      have hWS : W.size ≤ 2000 := by
        obtain ⟨⟨-, -, -, -, hW, -, hLi, hLall⟩, -⟩ := HC.out
        have := dats_le fun p hp => (hLall p hp).2.2
        rw [hW, mk_size]; omega
      have hSS : S.size ≤ 200 := HS5.out.2
      have hPl : PP.length ≤ 8 := by
        obtain ⟨⟨-, -, -, -, -, hPP, hLi, -⟩, -⟩ := HC.out
        rw [hPP, pcsB, List.length_map]; omega
      go_upto_region 21 with fail
      obtain ⟨W2, hW2⟩ : ∃ z, z = S ++ W := ⟨_, rfl⟩
      rw [← hW2]
      have HW2 := Lib.hid hW2
      clear hW2 hWS hSS
      go_wp2_with fail
      refine (OF.out _).mono ?_
      rintro e w7 ⟨rfl, rfl⟩
      have HO := Lib.hid (piece_lit x6 ⟨N, T⟩)
      have HPC := Lib.hid (K6.out.2.2.2.on ((Q.refl x6).alloc (.cells #[.int .i64 N, .int .u32 (T : Nat)] 67)))
      have hTl : T < 4294967296 := by rw [HT.out]; exact crc_lt _
      go_wp2_with (at_builtin; refine wpList_append_pce _ rfl _ _ 27 Tryz.underlying27 rfl x6.heap.size _ _ [⟨N, T⟩] PP rfl rfl HO.out HPC.out ?hb ?ha ?_; (case hb => simp); (case ha => (try simp); omega); intro v8 w8 o8 g8; have b8 := HO.out.grown ((Q.refl x6).alloc (.cells #[.int .i64 N, .int .u32 (T : Nat)] 67)) (by simp) g8; have okp := K6.out.2.2.2.okAll; have hv8 := o8.read (fun x hx => by rcases List.mem_append.1 hx with hx | hx; (obtain rfl : x = ⟨N, T⟩ := by simpa using hx); exact ⟨HP.out.1.1, HP.out.1.2.1, hTl⟩; exact okp x hx); have hf8 := o8.form; clear g8 o8; obtain ⟨A8, c8, rfl⟩ := hf8)
      refine (OF.out _).mono ?_
      rintro e w9 ⟨rfl, rfl⟩
      have HN2 : Hid (PIn w w8 pb px B d2 ky l.length (i + 1) (⟨N, S⟩ :: L) W2 A8 ([⟨N, T⟩] ++ PP) c8) := Lib.hid (by
        obtain ⟨⟨okb, okx, hok, hX, hW, hPP, hLi, hLall⟩, hr⟩ := HC.out
        obtain ⟨hd2, okd2⟩ := HD2.out
        refine ⟨⟨okb, okd2, hok, hd2, ?_, ?_, ?_, ?_⟩, K6.out.2.1.on b8, K6.out.1.on b8, K6.out.2.2.1.trans b8, hv8, hr⟩
        · rw [HW2.out, hW, datsB_cons]; apply bl_inj; rw [bl_append]; rfl
        · rw [hPP, HT.out]; rfl
        · rw [List.length_cons, hLi]
        · intro p hp
          rcases List.mem_cons.1 hp with rfl | hp
          · exact ⟨by have := HN.out; show _ < N; omega, HS5.out.1, HS5.out.2⟩
          · obtain ⟨h1, h2⟩ := hLall p hp
            exact ⟨by omega, h2⟩)
      clear hv8 b8 okp HPC HO K6
      go_wp2
      go_roundw
      case rel => exact ⟨i + 1, _, d2, W2, A8, [⟨N, T⟩] ++ PP, c8, by omega, by omega, by go_num, rfl, rfl, HN2⟩
      case measure => simp [intOf]; omega

set_option maxRecDepth 100000 in
theorem lifted (os : Os) (started : os.Started) (H : Type) (enc : TypeId × Value → H) :
    ReturnsInHanded {} Tryz.checked os 6 .any (Rows.bucketPartsSpec.pre6 enc Tryz.prog Tryz.f6 Rows.bucketPartsRow.domain false) (Rows.bucketPartsSpec.post enc Tryz.prog Tryz.f6 false true false false) := by
  refine returnsInHanded_of_change_sized (C := Tryz.checked) own started (by kernel_rfl) Tryz.func6
    (ChangeSpec.witness6 (enc := enc) (C := Tryz.checked) false ⟨#[], #[.agg #[.string ByteArray.empty, .int .i64 0, .slice none 0 0, .slice none 0 0, .int .u64 0], .string ByteArray.empty, .slice none 0 0], []⟩ 8 (by kernel_rfl) (by kernel_rfl) (by kernel_rfl) (by kernel_rfl)) ?_
  intro W base args ds gs before hval0 hW hcnd hsz0 _
  have hval : ∀ (j : Nat) t v, Tryz.f6.params[j]? = some t → args[j]? = some v → Value.okWide Tryz.prog W .any base t v := hval0
  have hW' := hW
  obtain ⟨p, q, hA0, hV, rfl, hfz, hnd⟩ := hW
  have hA : DataW.TrodAll enc Tryz.prog W 0 (fun _ => true) true Tryz.f6.params.toList args.toList ds p := hA0
  have hsz : (DataW.weightsEach Tryz.prog (Tryz.f6.params.toList ++ Rows.bucketPartsSpec.plain.varTypes Tryz.prog) (ds ++ gs)).all (· ≤ reachBytes) = true := hsz0
  rw [Tryz.params6] at hA hval hsz
  obtain ⟨v0, vs0, d0, ds0, p0, q0, hargs, rfl, rfl, h0, r0⟩ := trodAll_cons hA
  obtain ⟨v1, vs1, d1, ds1, p1, q1, rfl, rfl, rfl, h1, r1⟩ := trodAll_cons r0
  obtain ⟨v2, vs2, d2, ds2, p2, q2, rfl, rfl, rfl, h2, r2⟩ := trodAll_cons r1
  obtain ⟨rfl, rfl, rfl⟩ := trodAll_nil r2
  obtain rfl : args = #[v0, v1, v2] := by cases args; simp_all
  obtain ⟨rfl, rfl⟩ := trodVars_none hV
  clear hA0 hval0
  simp only [List.append_nil] at hW'
  have hlt : ∀ x ∈ p0 ++ p1 ++ p2, x.block < W.heap.size := fun x hx => by simpa using hW'.lt x (by simpa using hx)
  obtain ⟨b0, lv0, uv0, rfl, t0⟩ := open_bkt (hval 0 26 v0 rfl rfl) h0
  obtain ⟨a1, rfl, -, -, w1⟩ := open_string Tryz.underlying9 (hval 1 9 v1 rfl rfl) h1
  obtain ⟨a2, t2, w2, s2⟩ := open_txtsS (hval 2 56 v2 rfl rfl) h2 (fun n hn => by simpa using List.all_eq_true.1 hsz n (DataW.weights_mem_each (j := 2) rfl rfl n hn))
  refine (walk b0 lv0 uv0 a1 a2 v2 W t0 w1 t2 w2 s2).mono fun e W' ⟨he, bel⟩ => ?_
  subst he
  refine ⟨_, rfl, _, _, _, [], _, [], hW', trodAll_mk1 (shut_bool Tryz.underlying4 _), (trodAll_cons_mk (Below.trod laid (by kernel_rfl) (of_decide_eq_true (by kernel_rfl)) h0 bel (fun x hx => hlt x (by simp [hx]))) (trodAll_cons_mk (Below.trod laid (by kernel_rfl) (of_decide_eq_true (by kernel_rfl)) h1 bel (fun x hx => hlt x (by simp [hx]))) (trodAll_cons_mk (Below.trod laid (by kernel_rfl) (of_decide_eq_true (by kernel_rfl)) h2 bel (fun x hx => hlt x (by simp [hx]))) trodAll_mk0))), rfl, Below.frame bel _, fun h => by cases h⟩

theorem over : Rows.bucketPartsRow.holds Tryz.pinned (OpenSpec.ofChange Rows.bucketPartsSpec) :=
  OpenClaim.holds_of_wide 6 Tryz.f6 rfl rfl rfl rfl rfl rfl rfl ⟨rfl, rfl, rfl, rfl, rfl⟩ rfl rfl rfl rfl rfl (by kernel_rfl) Tryz.func6 (by kernel_rfl)
    (of_decide_eq_true (by kernel_rfl)) (by unfold Func.isWrapper; first | (rw [if_pos (by decide +kernel)]; kernel_rfl) | (rw [if_neg (by decide +kernel)]; exact ⟨rfl, rfl⟩))
    (fun os started H enc _ => lifted os started H enc)

theorem proved : Rows.BucketPartsSaid := over
#print axioms proved
end Go.Proofs.YtjjlbbfhmpbneaaGreat.bucketParts
