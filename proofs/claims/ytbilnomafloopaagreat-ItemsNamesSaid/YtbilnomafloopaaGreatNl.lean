/-
  Contracts of the program's mayNumber and Check of a bucket, of New and of Empty. Contract of the program's madeBehind: was a version of a bucket made behind a time? Contracts of the program's Check of a bucket, of New and of Empty. Contract of the program's Check of a depot. Contracts of the program's Same and of the document's. Contract of the document's Same. Contracts of the document's Octets of a bucket, and of its Same, where they are the same. Contract of the program's apart: a bucket with lists of its own. append of a part as one operation of a region that draws. Contracts of the statements' One and Few. Rows of uploads whose lists are rows of one's own: they lie above all that was there, and stay where a box below is written.
-/
import Derived.Test.YtbilnomafloopaaGreatNk
import Derived.Test.YtbilnomafloopaaGreatNj
import Derived.Deep.RegionHeld3
namespace Go.Proofs.YtbilnomafloopaaGreat
set_option maxRecDepth 100000
open Go.ChangeShapes Go.WideShapes Go.ChangeAt Go.RowKit Go.Shelf
set_option linter.unusedVariables false
set_option linter.unusedSimpArgs false
theorem any_num {l : List Ent} {m : Nat} : okNumE l m ↔ ∀ j (h : j < l.length), (l[j].L.any fun x => decide (m < x.id)) = false := by
  refine ⟨fun h j hj => ?_, fun h e he x hx => ?_⟩
  · rw [List.any_eq_false]
    intro x hx
    have := h _ (List.getElem_mem hj) x hx
    simpa using this
  · obtain ⟨j, hj, rfl⟩ := List.getElem_of_mem he
    have := h j hj
    rw [List.any_eq_false] at this
    have := this x hx
    simpa using this
theorem any_numU {l : List Upl} {m : Nat} : okNumU l m ↔ (l.any fun x => decide (m < x.id)) = false := by
  rw [List.any_eq_false]
  refine ⟨fun h x hx => by have := h x hx; simpa using this, fun h x hx => by have := h x hx; simpa using this⟩
set_option maxHeartbeats 8000000 in
theorem mayNum_any (b : Bkt) (lv uv : Value) (w : World) (R : Bool) (hR : Chk (okNum b) R) (hs : smE b.L) (hu : smL b.U) (hv : BktV w b lv uv) :
    Calls Tryz.prog 103 #[bkt b lv uv] w fun e w' => e = .returned (.bool R) ∧ Q w w' := by
  have hmf : ∀ (fn : Fn) (first cap : Array Value) (w : World), (Instr.makeFunc fn first cap).run Tryz.prog w = .ok (.func fn first cap) w := fun _ _ _ _ => rfl
  have HV := Lib.hid hv
  have HS := Lib.hid hs
  have HR := Lib.hid hR
  have hl := hs.1.1
  have hul := hu.1
  by_cases hst : b.st = 0
  · have HTOP : Hid (topB b = 0) := Lib.hid (by simp [topB, hst])
    obtain ⟨A1, c1, rfl⟩ := hv.1.form
    obtain ⟨A2, c2, rfl⟩ := hv.2.form
    have Z := Lib.hid ((Bx.new w 60 (bcl b (.slice A1 b.L.length c1) (.slice A2 b.U.length c2))).alloc (.cells #[.int .u64 0] 47))
    have Y := Bx.new (w.alloc (.cells (bcl b (.slice A1 b.L.length c1) (.slice A2 b.U.length c2)) 60)) 47 #[.int .u64 0]
    simp only [World.size_alloc] at Y
    have Y := Lib.hid Y
    have q0 : Q w ((w.alloc (.cells (bcl b (.slice A1 b.L.length c1) (.slice A2 b.U.length c2)) 60)).alloc (.cells #[.int .u64 0] 47)) := ((Q.refl w).alloc _).alloc _
    have CF : Hid (∀ d, Q ((w.alloc (.cells (bcl b (.slice A1 b.L.length c1) (.slice A2 b.U.length c2)) 60)).alloc (.cells #[.int .u64 0] 47)) d → ∀ (L : List Ver) (A : Option Addr) (c : Nat), L.length ≤ 1000 → Vers d d.heap.size (.slice A L.length c) L → Calls Tryz.prog 107 #[.slice A L.length c, .func (.func 158) #[] #[.pointer (some ⟨w.heap.size + 1, 0, none⟩)]] d fun e w' => e = .returned (.bool (L.any fun x => decide (0 < x.id))) ∧ Q d w') := Lib.hid fun d q L A c h1 h2 =>
      containsFunc_any _ (w.heap.size + 1) (fun x => decide (0 < x.id)) L _ d eg_num1 (fun x b' q' => num1_any x 0 (w.heap.size + 1) b' (by rw [(Y.out.on (q.trans q')).cell]; rfl) (Y.out.on (q.trans q')).lt) h1 h2
    have CU : Hid (∀ d, Q ((w.alloc (.cells (bcl b (.slice A1 b.L.length c1) (.slice A2 b.U.length c2)) 60)).alloc (.cells #[.int .u64 0] 47)) d → Calls Tryz.prog 159 #[.slice A2 b.U.length c2, .func (.func 160) #[] #[.pointer (some ⟨w.heap.size, 0, none⟩)]] d fun e w' => e = .returned (.bool (b.U.any fun x => decide (b.last < x.id))) ∧ Q d w') := Lib.hid fun d q =>
      containsQ_any _ w.heap.size (fun i => decide (b.last < i)) b.U _ d eg_num2 (fun i k A n c b' q' => num2_any i b.last k _ ⟨A, n, c, rfl⟩ w.heap.size b' (bx_bkt (Z.out.on (q.trans q'))).2.2.2.2 (Z.out.on (q.trans q')).lt) hul (HV.out.2.on (q0.trans q))
    have hb0 : (b.st == 0) = true := by simpa using hst
    clear hst
    clear hs hu hv hR hul
    rw [bkt]
    go_enter Tryz.func103, Tryz.ntmps103
    go_wp2_with fail
    go_loopw [14] (fun I wr => ∃ i : Nat, i ≤ b.L.length ∧ I = .int .i64 i ∧ Q ((w.alloc (.cells (bcl b (.slice A1 b.L.length c1) (.slice A2 b.U.length c2)) 60)).alloc (.cells #[.int .u64 0] 47)) wr ∧ Hid (∀ j (h : j < i) (hl : j < b.L.length), (b.L[j].L.any fun x => decide (0 < x.id)) = false)) (fun I _ => b.L.length - (intOf I).toNat)
    case atStart => exact ⟨0, Nat.zero_le _, rfl, Q.refl _, Lib.hid (fun j h => by omega)⟩
    case round =>
      obtain ⟨i, hil, rfl, q, HK⟩ := hrel
      by_cases hlt : i < b.L.length
      · obtain ⟨a, c', hv, ha, A3, c3, hvs, hat⟩ := HV.out.1.pick i hlt
        injection hv with e1 e2 e3
        subst e1 e3
        obtain ⟨d0, d1⟩ := hat _ (q0.trans q)
        have C := CF.out _ (q.alloc (.cells #[.string b.L[i].key, .slice A3 b.L[i].L.length c3] 63)) b.L[i].L A3 c3 (HS.out.1.2 _ (List.getElem_mem hlt)).2.1 (hvs.on ((q0.trans q).alloc (.cells #[.string b.L[i].key, .slice A3 b.L[i].L.length c3] 63)))
        cases hpx : (b.L[i].L.any fun x => decide (0 < x.id)) with
        | true =>
          have HX : Hid (R = false) := Lib.hid (by
            rcases HR.out with ⟨rfl, h⟩ | ⟨rfl, -⟩
            · have := any_num.1 h.1 i hlt
              rw [HTOP.out, hpx] at this
              simp at this
            · rfl)
          rw [hpx] at C
          obtain ⟨x, hx⟩ : ∃ x, x = b.L[i] := ⟨_, rfl⟩
          rw [← hx] at d0 d1 C
          have C := Lib.hid C
          clear hx hpx hat hvs
          go_wp2_with fail
          refine (C.out).mono ?_
          rintro e w1 ⟨rfl, q1⟩
          go_wp2
          go_ret
          exact ⟨by rw [HX.out]; rfl, ((q0.trans q).alloc _).trans q1⟩
        | false =>
          have HK2 : Hid (∀ j (h : j < i + 1) (hl : j < b.L.length), (b.L[j].L.any fun x => decide (0 < x.id)) = false) := Lib.hid (fun j hj hl => by
            by_cases e : j = i
            · subst e; exact hpx
            · exact HK.out j (by omega) hl)
          rw [hpx] at C
          obtain ⟨x, hx⟩ : ∃ x, x = b.L[i] := ⟨_, rfl⟩
          rw [← hx] at d0 d1 C
          have C := Lib.hid C
          have hilt : (i : Int) < (b.L.length : Int) := by omega
          clear hx hpx hat hvs
          go_wp2_with fail
          refine (C.out).mono ?_
          rintro e w1 ⟨rfl, q1⟩
          go_wp2
          go_roundw
          case rel => exact ⟨i + 1, by omega, by go_num, (q.alloc _).trans q1, HK2⟩
          case measure => simp [intOf]; omega
      · have HX : Hid (R = !(b.U.any fun x => decide (b.last < x.id))) := Lib.hid (by
          have hE : okNumE b.L (topB b) := any_num.2 fun j h => by rw [HTOP.out]; exact HK.out j (by omega) h
          rcases HR.out with ⟨rfl, h⟩ | ⟨rfl, h⟩
          · rw [any_numU.1 h.2]; rfl
          · cases hx : (b.U.any fun x => decide (b.last < x.id)) with
            | true => rfl
            | false => exact absurd ⟨hE, any_numU.2 hx⟩ h)
        obtain ⟨-, -, -, e3, -⟩ := bx_bkt (Z.out.on q)
        have C := Lib.hid (CU.out _ q)
        have hilt : ¬ (i : Int) < (b.L.length : Int) := by omega
        generalize (b.U.any fun x => decide (b.last < x.id)) = r at C HX
        go_wp2_with fail
        refine (C.out).mono ?_
        rintro e w1 ⟨rfl, q1⟩
        go_wp2
        go_ret
        exact ⟨by rw [HX.out]; rfl, (q0.trans q).trans q1⟩
  · have HTOP : Hid (topB b = b.last) := Lib.hid (by simp [topB, hst])
    obtain ⟨A1, c1, rfl⟩ := hv.1.form
    obtain ⟨A2, c2, rfl⟩ := hv.2.form
    have Z := Lib.hid ((Bx.new w 60 (bcl b (.slice A1 b.L.length c1) (.slice A2 b.U.length c2))).alloc (.cells #[.int .u64 (b.last : Nat)] 47))
    have Y := Bx.new (w.alloc (.cells (bcl b (.slice A1 b.L.length c1) (.slice A2 b.U.length c2)) 60)) 47 #[.int .u64 (b.last : Nat)]
    simp only [World.size_alloc] at Y
    have Y := Lib.hid Y
    have q0 : Q w ((w.alloc (.cells (bcl b (.slice A1 b.L.length c1) (.slice A2 b.U.length c2)) 60)).alloc (.cells #[.int .u64 (b.last : Nat)] 47)) := ((Q.refl w).alloc _).alloc _
    have CF : Hid (∀ d, Q ((w.alloc (.cells (bcl b (.slice A1 b.L.length c1) (.slice A2 b.U.length c2)) 60)).alloc (.cells #[.int .u64 (b.last : Nat)] 47)) d → ∀ (L : List Ver) (A : Option Addr) (c : Nat), L.length ≤ 1000 → Vers d d.heap.size (.slice A L.length c) L → Calls Tryz.prog 107 #[.slice A L.length c, .func (.func 158) #[] #[.pointer (some ⟨w.heap.size + 1, 0, none⟩)]] d fun e w' => e = .returned (.bool (L.any fun x => decide (b.last < x.id))) ∧ Q d w') := Lib.hid fun d q L A c h1 h2 =>
      containsFunc_any _ (w.heap.size + 1) (fun x => decide (b.last < x.id)) L _ d eg_num1 (fun x b' q' => num1_any x b.last (w.heap.size + 1) b' (by rw [(Y.out.on (q.trans q')).cell]; rfl) (Y.out.on (q.trans q')).lt) h1 h2
    have CU : Hid (∀ d, Q ((w.alloc (.cells (bcl b (.slice A1 b.L.length c1) (.slice A2 b.U.length c2)) 60)).alloc (.cells #[.int .u64 (b.last : Nat)] 47)) d → Calls Tryz.prog 159 #[.slice A2 b.U.length c2, .func (.func 160) #[] #[.pointer (some ⟨w.heap.size, 0, none⟩)]] d fun e w' => e = .returned (.bool (b.U.any fun x => decide (b.last < x.id))) ∧ Q d w') := Lib.hid fun d q =>
      containsQ_any _ w.heap.size (fun i => decide (b.last < i)) b.U _ d eg_num2 (fun i k A n c b' q' => num2_any i b.last k _ ⟨A, n, c, rfl⟩ w.heap.size b' (bx_bkt (Z.out.on (q.trans q'))).2.2.2.2 (Z.out.on (q.trans q')).lt) hul (HV.out.2.on (q0.trans q))
    have hb1 : (b.st == 0) = false := by simpa using hst
    clear hs hu hv hR hul
    rw [bkt]
    go_enter Tryz.func103, Tryz.ntmps103
    go_wp2_with fail
    go_loopw [14] (fun I wr => ∃ i : Nat, i ≤ b.L.length ∧ I = .int .i64 i ∧ Q ((w.alloc (.cells (bcl b (.slice A1 b.L.length c1) (.slice A2 b.U.length c2)) 60)).alloc (.cells #[.int .u64 (b.last : Nat)] 47)) wr ∧ Hid (∀ j (h : j < i) (hl : j < b.L.length), (b.L[j].L.any fun x => decide (b.last < x.id)) = false)) (fun I _ => b.L.length - (intOf I).toNat)
    case atStart => exact ⟨0, Nat.zero_le _, rfl, Q.refl _, Lib.hid (fun j h => by omega)⟩
    case round =>
      obtain ⟨i, hil, rfl, q, HK⟩ := hrel
      by_cases hlt : i < b.L.length
      · obtain ⟨a, c', hv, ha, A3, c3, hvs, hat⟩ := HV.out.1.pick i hlt
        injection hv with e1 e2 e3
        subst e1 e3
        obtain ⟨d0, d1⟩ := hat _ (q0.trans q)
        have C := CF.out _ (q.alloc (.cells #[.string b.L[i].key, .slice A3 b.L[i].L.length c3] 63)) b.L[i].L A3 c3 (HS.out.1.2 _ (List.getElem_mem hlt)).2.1 (hvs.on ((q0.trans q).alloc (.cells #[.string b.L[i].key, .slice A3 b.L[i].L.length c3] 63)))
        cases hpx : (b.L[i].L.any fun x => decide (b.last < x.id)) with
        | true =>
          have HX : Hid (R = false) := Lib.hid (by
            rcases HR.out with ⟨rfl, h⟩ | ⟨rfl, -⟩
            · have := any_num.1 h.1 i hlt
              rw [HTOP.out, hpx] at this
              simp at this
            · rfl)
          rw [hpx] at C
          obtain ⟨x, hx⟩ : ∃ x, x = b.L[i] := ⟨_, rfl⟩
          rw [← hx] at d0 d1 C
          have C := Lib.hid C
          clear hx hpx hat hvs
          go_wp2_with fail
          refine (C.out).mono ?_
          rintro e w1 ⟨rfl, q1⟩
          go_wp2
          go_ret
          exact ⟨by rw [HX.out]; rfl, ((q0.trans q).alloc _).trans q1⟩
        | false =>
          have HK2 : Hid (∀ j (h : j < i + 1) (hl : j < b.L.length), (b.L[j].L.any fun x => decide (b.last < x.id)) = false) := Lib.hid (fun j hj hl => by
            by_cases e : j = i
            · subst e; exact hpx
            · exact HK.out j (by omega) hl)
          rw [hpx] at C
          obtain ⟨x, hx⟩ : ∃ x, x = b.L[i] := ⟨_, rfl⟩
          rw [← hx] at d0 d1 C
          have C := Lib.hid C
          have hilt : (i : Int) < (b.L.length : Int) := by omega
          clear hx hpx hat hvs
          go_wp2_with fail
          refine (C.out).mono ?_
          rintro e w1 ⟨rfl, q1⟩
          go_wp2
          go_roundw
          case rel => exact ⟨i + 1, by omega, by go_num, (q.alloc _).trans q1, HK2⟩
          case measure => simp [intOf]; omega
      · have HX : Hid (R = !(b.U.any fun x => decide (b.last < x.id))) := Lib.hid (by
          have hE : okNumE b.L (topB b) := any_num.2 fun j h => by rw [HTOP.out]; exact HK.out j (by omega) h
          rcases HR.out with ⟨rfl, h⟩ | ⟨rfl, h⟩
          · rw [any_numU.1 h.2]; rfl
          · cases hx : (b.U.any fun x => decide (b.last < x.id)) with
            | true => rfl
            | false => exact absurd ⟨hE, any_numU.2 hx⟩ h)
        obtain ⟨-, -, -, e3, -⟩ := bx_bkt (Z.out.on q)
        have C := Lib.hid (CU.out _ q)
        have hilt : ¬ (i : Int) < (b.L.length : Int) := by omega
        generalize (b.U.any fun x => decide (b.last < x.id)) = r at C HX
        go_wp2_with fail
        refine (C.out).mono ?_
        rintro e w1 ⟨rfl, q1⟩
        go_wp2
        go_ret
        exact ⟨by rw [HX.out]; rfl, (q0.trans q).trans q1⟩
end Go.Proofs.YtbilnomafloopaaGreat

namespace Go.Proofs.YtbilnomafloopaaGreat
set_option maxRecDepth 100000
open Go.ChangeShapes Go.WideShapes Go.ChangeAt Go.RowKit Go.Shelf
set_option linter.unusedVariables false
set_option linter.unusedSimpArgs false
set_option maxHeartbeats 4000000 in
theorem indexFuncX_any (g B : Nat) (p : Ent → Bool) (l : List Ent) (v : Value) (w : World) (eg : ∀ args w, (callFunc g args).run Tryz.prog w = .ok (.enter g args) w)
    (hp : ∀ (i : Nat) (hi : i < l.length) A c b, Q w b → Vers b b.heap.size (.slice A l[i].L.length c) l[i].L → Calls Tryz.prog g #[.agg #[.string l[i].key, .slice A l[i].L.length c], .pointer (some ⟨B, 0, none⟩)] b fun e w' => e = .returned (.bool (p l[i])) ∧ Q b w')
    (hl : l.length ≤ 1000) (ht : Ents w w.heap.size v l) :
    Calls Tryz.prog 163 #[v, .func (.func g) #[] #[.pointer (some ⟨B, 0, none⟩)]] w fun e w' => e = .returned (.int .i64 (idxL p l)) ∧ Q w w' := by
  have HT := Lib.hid ht
  have HP := Lib.hid hp
  obtain ⟨A, c, rfl⟩ := ht.form
  clear ht hp
  go_enter Tryz.func163, Tryz.ntmps163
  go_wp2_with fail
  go_loopw [5, 8] (fun _ I wr => ∃ i : Nat, i ≤ l.length ∧ I = .int .i64 i ∧ Q w wr ∧ Hid (∀ j (hj : j < i) (hl : j < l.length), p l[j] = false)) (fun _ I _ => l.length - (intOf I).toNat)
  case atStart => exact ⟨0, Nat.zero_le _, rfl, Q.refl _, Lib.hid (fun j h => by omega)⟩
  case round =>
    obtain ⟨i, hil, rfl, q, HK⟩ := hrel
    by_cases hlt : i < l.length
    · obtain ⟨a, c', hv, ha, A2, c2, hvs, hat⟩ := HT.out.pick i hlt
      injection hv with e1 e2 e3
      subst e1 e3
      obtain ⟨d0, d1⟩ := hat _ q
      have C := HP.out i hlt A2 c2 wr q (hvs.on q)
      cases hpx : p l[i] with
      | true =>
        have HV := Lib.hid (idxL_hit (p := p) hlt hpx HK.out)
        rw [hpx] at C
        obtain ⟨x, hx⟩ : ∃ x, x = l[i] := ⟨_, rfl⟩
        rw [← hx] at d0 d1 C
        have C := Lib.hid C
        clear hx hpx hat hvs
        go_wp2_with (go_at_fn g; refine (C.out).mono ?_; rintro e w1 ⟨rfl, q1⟩)
        go_ret
        exact ⟨by rw [HV.out]; rfl, q.trans q1⟩
      | false =>
        have HK2 : Hid (∀ j (hj : j < i + 1) (hl : j < l.length), p l[j] = false) := Lib.hid (fun j hj hl => by
          by_cases e : j = i
          · subst e; exact hpx
          · exact HK.out j (by omega) hl)
        rw [hpx] at C
        obtain ⟨x, hx⟩ : ∃ x, x = l[i] := ⟨_, rfl⟩
        rw [← hx] at d0 d1 C
        have C := Lib.hid C
        clear hx hpx hat hvs
        go_wp2_with (go_at_fn g; refine (C.out).mono ?_; rintro e w1 ⟨rfl, q1⟩)
        go_roundw
        case rel => exact ⟨i + 1, by omega, by go_num, q.trans q1, HK2⟩
        case measure => simp [intOf]; omega
    · have HV := Lib.hid (idxL_none (p := p) (l := l) (fun j hl => HK.out j (by omega) hl))
      go_wp2
      go_ret
      exact ⟨by rw [HV.out]; rfl, q⟩
set_option maxHeartbeats 4000000 in
theorem containsX_any (g B : Nat) (p : Ent → Bool) (l : List Ent) (v : Value) (w : World) (eg : ∀ args w, (callFunc g args).run Tryz.prog w = .ok (.enter g args) w)
    (hp : ∀ (i : Nat) (hi : i < l.length) A c b, Q w b → Vers b b.heap.size (.slice A l[i].L.length c) l[i].L → Calls Tryz.prog g #[.agg #[.string l[i].key, .slice A l[i].L.length c], .pointer (some ⟨B, 0, none⟩)] b fun e w' => e = .returned (.bool (p l[i])) ∧ Q b w')
    (hl : l.length ≤ 1000) (ht : Ents w w.heap.size v l) :
    Calls Tryz.prog 105 #[v, .func (.func g) #[] #[.pointer (some ⟨B, 0, none⟩)]] w fun e w' => e = .returned (.bool (l.any p)) ∧ Q w w' := by
  have C := Lib.hid (indexFuncX_any g B p l v w eg hp hl ht)
  have HS := idxL_sign p l
  clear hp
  cases h : l.any p with
  | true =>
    have k : 0 ≤ idxL p l := HS.2 h
    clear HS
    generalize idxL p l = r at C k
    go_enter Tryz.func105, Tryz.ntmps105
    go_wp2_with fail
    refine (C.out).mono ?_
    rintro e w1 ⟨rfl, q1⟩
    go_wp2
    go_ret
    exact ⟨by first | rfl | simp [k], q1⟩
  | false =>
    have k : ¬ 0 ≤ idxL p l := fun e => by rw [HS.1 e] at h; simp at h
    clear HS
    generalize idxL p l = r at C k
    go_enter Tryz.func105, Tryz.ntmps105
    go_wp2_with fail
    refine (C.out).mono ?_
    rintro e w1 ⟨rfl, q1⟩
    go_wp2
    go_ret
    exact ⟨by first | rfl | simp [k], q1⟩
set_option maxHeartbeats 4000000 in
theorem late1_any (x : Ver) (now : Int) (B : Nat) (w : World) (hc : w.cell? ⟨B, 0, none⟩ = some (.int .i64 now)) (hB : B < w.heap.size) :
    Calls Tryz.prog 108 #[ver x, .pointer (some ⟨B, 0, none⟩)] w fun e w' => e = .returned (.bool (decide (now < x.tm))) ∧ Q w w' := by
  have HQ := Lib.hid (fun o => (Q.refl w).alloc o)
  have hne : B ≠ w.heap.size := by omega
  rw [ver]
  by_cases h : now < x.tm
  · have HV : Hid (decide (now < x.tm) = true) := Lib.hid (by simp [h])
    go_enter Tryz.func108, Tryz.ntmps108
    go_wp2
    go_ret
    exact ⟨ret_bool (by rw [HV.out]), HQ.out _⟩
  · have HV : Hid (decide (now < x.tm) = false) := Lib.hid (by simp [h])
    go_enter Tryz.func108, Tryz.ntmps108
    go_wp2
    go_ret
    exact ⟨ret_bool (by rw [HV.out]), HQ.out _⟩
theorem eg_late1 : ∀ args w, (callFunc 108 args).run Tryz.prog w = .ok (.enter 108 args) w := enters_of Tryz.func108 (by kernel_rfl) rfl
theorem eg_late : ∀ args w, (callFunc 106 args).run Tryz.prog w = .ok (.enter 106 args) w := enters_of Tryz.func106 (by kernel_rfl) rfl
def lateE (now : Int) (e : Ent) : Bool := e.L.any fun x => decide (now < x.tm)
set_option maxHeartbeats 4000000 in
theorem late_any (k : ByteArray) (L : List Ver) (A : Option Addr) (c : Nat) (now : Int) (B : Nat) (w : World) (hl : L.length ≤ 1000) (ht : Vers w w.heap.size (.slice A L.length c) L) (hc : w.cell? ⟨B, 0, none⟩ = some (.int .i64 now)) (hB : B < w.heap.size) :
    Calls Tryz.prog 106 #[.agg #[.string k, .slice A L.length c], .pointer (some ⟨B, 0, none⟩)] w fun e w' => e = .returned (.bool (lateE now ⟨k, L⟩)) ∧ Q w w' := by
  have hmf : ∀ (fn : Fn) (first cap : Array Value) (w : World), (Instr.makeFunc fn first cap).run Tryz.prog w = .ok (.func fn first cap) w := fun _ _ _ _ => rfl
  have q0 := (Q.refl w).alloc (.cells #[.string k, .slice A L.length c] 63)
  have hc1 : ∀ b, Q (w.alloc (.cells #[.string k, .slice A L.length c] 63)) b → b.cell? ⟨B, 0, none⟩ = some (.int .i64 now) := fun b q => ((q0.trans q).cell (p := ⟨B, 0, none⟩) hB).trans hc
  have C := Lib.hid (containsFunc_any 108 B (fun x => decide (now < x.tm)) L _ (w.alloc (.cells #[.string k, .slice A L.length c] 63)) eg_late1
    (fun x b q => late1_any x now B b (hc1 b q) (Nat.lt_of_lt_of_le hB (q0.trans q).size)) hl (ht.on q0))
  have HE : Hid (lateE now ⟨k, L⟩ = L.any fun x => decide (now < x.tm)) := Lib.hid rfl
  have hne : B ≠ w.heap.size := by omega
  generalize (L.any fun x => decide (now < x.tm)) = r at C HE
  clear hl ht hc1
  go_enter Tryz.func106, Tryz.ntmps106
  go_wp2_with fail
  refine (C.out).mono ?_
  rintro e w1 ⟨rfl, q1⟩
  go_wp2
  go_ret
  exact ⟨by rw [HE.out]; rfl, q0.trans q1⟩
theorem lateB_iff (b : Bkt) (now : Int) : b.L.any (lateE now) = true ↔ lateB b now := by
  unfold lateB lateE
  simp [List.any_eq_true]
set_option maxHeartbeats 4000000 in
theorem madeBehind_any (b : Bkt) (lv uv : Value) (now : Int) (w : World) (r : Bool) (hr : r = b.L.any (lateE now)) (hs : smE b.L) (hv : BktV w b lv uv) :
    Calls Tryz.prog 65 #[bkt b lv uv, .int .i64 now] w fun e w' => e = .returned (.bool r) ∧ Q w w' := by
  have hmf : ∀ (fn : Fn) (first cap : Array Value) (w : World), (Instr.makeFunc fn first cap).run Tryz.prog w = .ok (.func fn first cap) w := fun _ _ _ _ => rfl
  obtain ⟨A1, c1, rfl⟩ := hv.1.form
  obtain ⟨A2, c2, rfl⟩ := hv.2.form
  have Z := (Bx.new w 60 (bcl b (.slice A1 b.L.length c1) (.slice A2 b.U.length c2))).alloc (.cells #[.int .i64 now] 3)
  have Y := Bx.new (w.alloc (.cells (bcl b (.slice A1 b.L.length c1) (.slice A2 b.U.length c2)) 60)) 3 #[.int .i64 now]
  simp only [World.size_alloc] at Y
  have q0 : Q w ((w.alloc (.cells (bcl b (.slice A1 b.L.length c1) (.slice A2 b.U.length c2)) 60)).alloc (.cells #[.int .i64 now] 3)) := ((Q.refl w).alloc _).alloc _
  have C := Lib.hid (containsX_any 106 (w.heap.size + 1) (lateE now) b.L _ ((w.alloc (.cells (bcl b (.slice A1 b.L.length c1) (.slice A2 b.U.length c2)) 60)).alloc (.cells #[.int .i64 now] 3)) eg_late
    (fun i hi A c d q ht => late_any b.L[i].key b.L[i].L A c now (w.heap.size + 1) d (hs.1.2 _ (List.getElem_mem hi)).2.1 ht (by rw [(Y.on q).cell]; rfl) (Y.on q).lt) hs.1.1 (hv.1.on q0))
  rw [← hr] at C
  obtain ⟨v0, v1, v2, v3, v4⟩ := bx_bkt Z
  clear hr hs hv Y Z
  rw [bkt]
  go_enter Tryz.func65, Tryz.ntmps65
  go_wp2_with fail
  refine (C.out).mono ?_
  rintro e w1 ⟨rfl, q1⟩
  go_wp2
  go_ret
  exact ⟨rfl, q0.trans q1⟩
end Go.Proofs.YtbilnomafloopaaGreat

namespace Go.Proofs.YtbilnomafloopaaGreat
set_option maxRecDepth 100000
open Go.ChangeShapes Go.WideShapes Go.ChangeAt Go.RowKit Go.Shelf
set_option linter.unusedVariables false
set_option linter.unusedSimpArgs false
/-- What the walk of Check wants of each of its steps, at whatever world behind the box. -/
theorem isSt_iff {s : Int} : isSt s = true ↔ 0 ≤ s ∧ s ≤ 2 := by
  simp only [isSt, Bool.and_eq_true, decide_eq_true_eq]
set_option maxHeartbeats 8000000 in
theorem bktCheck_any (b : Bkt) (lv uv : Value) (w : World) (R : Bool) (hR : Chk (okB b) R) (hn : b.name.size ≤ 1000) (hs : smE b.L) (hu : smL b.U) (hv : BktV w b lv uv) :
    Calls Tryz.prog 64 #[bkt b lv uv] w fun e w' => e = .returned (.int .i64 (chkE R)) ∧ Q w w' := by
  have q0 := (Q.refl w).alloc (.cells (bcl b lv uv) 60)
  have Z := Lib.hid (Bx.new w 60 (bcl b lv uv))
  have HV := Lib.hid hv
  have HR := Lib.hid hR
  have BK := Lib.hid fun d => bucket_any b.name d hn
  have IS := Lib.hid fun d => isState_any d b.st
  obtain ⟨R4, h4⟩ := chkI_ex b.L
  obtain ⟨R5, h5⟩ := chk_ex (okUps b.U)
  obtain ⟨R6, h6⟩ := chk_ex (okNum b)
  have IC := Lib.hid fun d (q : Q w d) => checkE_any b.L lv d R4 h4 hs.1 (hv.1.on q)
  have PC := Lib.hid fun d (q : Q w d) => checkU_any b.U uv d R5 h5 hu (hv.2.on q)
  have MN := Lib.hid fun d (q : Q w d) => mayNum_any b lv uv d R6 h6 hs hu (hv.on q)
  have OC := Lib.hid fun d (q : Q w d) => boct_any b lv uv d hs hu (hv.on q)
  obtain ⟨A1, c1, rfl⟩ := hv.1.form
  obtain ⟨A2, c2, rfl⟩ := hv.2.form
  rw [bkt] at MN OC
  rw [bkt]
  have NO : Hid (¬ okB b → R = false) := Lib.hid fun h => by
    rcases HR.out with ⟨-, k⟩ | ⟨rfl, -⟩
    · exact absurd k h
    · rfl
  have H4 := Lib.hid h4
  have H5 := Lib.hid h5
  have H6 := Lib.hid h6
  have CELL : Hid (∀ d, Q (w.alloc (.cells (bcl b (.slice A1 b.L.length c1) (.slice A2 b.U.length c2)) 60)) d → d.cell? ⟨w.heap.size, 0, none⟩ = some (.string b.name) ∧ d.cell? ⟨w.heap.size, 1, none⟩ = some (.int .i64 b.st) ∧ d.cell? ⟨w.heap.size, 2, none⟩ = some (.slice A1 b.L.length c1) ∧ d.cell? ⟨w.heap.size, 3, none⟩ = some (.slice A2 b.U.length c2) ∧ d.cell? ⟨w.heap.size, 4, none⟩ = some (.int .u64 (b.last : Nat))) := Lib.hid fun d q => bx_bkt (Z.out.on q)
  clear hn hs hu hv hR h4 h5 h6
  cases e1 : bucketO b.name with
  | false =>
    have HX := Lib.hid (NO.out fun h => by rw [h.1] at e1; simp at e1)
    rw [e1] at BK
    clear e1
    go_enter Tryz.func64, Tryz.ntmps64
    go_wp2_with fail
    refine (BK.out _).mono ?_
    rintro e w1 ⟨rfl, q1⟩
    obtain ⟨c0, c1', c2', c3', c4'⟩ := CELL.out _ q1
    go_wp2
    go_ret
    exact ⟨by rw [HX.out]; rfl, q0.trans q1⟩
  | true =>
  rw [e1] at BK
  cases e2 : isSt b.st with
  | false =>
    have HX := Lib.hid (NO.out fun h => by rw [isSt_iff.2 h.2.1] at e2; simp at e2)
    rw [e2] at IS
    clear e1 e2
    go_enter Tryz.func64, Tryz.ntmps64
    go_wp2_with fail
    refine (BK.out _).mono ?_
    rintro e w1 ⟨rfl, q1⟩
    obtain ⟨c0, c1', c2', c3', c4'⟩ := CELL.out _ q1
    go_wp2_with fail
    refine (IS.out _).mono ?_
    rintro e w2 ⟨rfl, rfl⟩
    go_wp2
    go_ret
    exact ⟨by rw [HX.out]; rfl, q0.trans q1⟩
  | true =>
  rw [e2] at IS
  by_cases e3 : b.last ≤ 281474976710655
  case neg =>
    have HX := Lib.hid (NO.out fun h => e3 h.2.2.1)
    have j3 : (281474976710655 : Int) < (b.last : Int) := by omega
    clear e1 e2 e3
    go_enter Tryz.func64, Tryz.ntmps64
    go_wp2_with fail
    refine (BK.out _).mono ?_
    rintro e w1 ⟨rfl, q1⟩
    obtain ⟨c0, c1', c2', c3', c4'⟩ := CELL.out _ q1
    go_wp2_with fail
    refine (IS.out _).mono ?_
    rintro e w2 ⟨rfl, rfl⟩
    go_wp2
    go_ret
    exact ⟨by rw [HX.out]; rfl, q0.trans q1⟩
  have j3 : ¬ (281474976710655 : Int) < (b.last : Int) := by omega
  have E3 := Lib.hid e3
  clear e3
  cases R4 with
  | false =>
    have HX := Lib.hid (NO.out fun h => by rcases H4.out with ⟨k, -⟩ | ⟨-, k⟩; simp at k; exact k h.2.2.2.1)
    clear e1 e2
    go_enter Tryz.func64, Tryz.ntmps64
    go_wp2_with fail
    refine (BK.out _).mono ?_
    rintro e w1 ⟨rfl, q1⟩
    obtain ⟨c0, c1', c2', c3', c4'⟩ := CELL.out _ q1
    go_wp2_with fail
    refine (IS.out _).mono ?_
    rintro e w2 ⟨rfl, rfl⟩
    go_wp2_with fail
    refine (IC.out _ (q0.trans q1)).mono ?_
    rintro e w3 ⟨rfl, q3⟩
    obtain ⟨c0, c1', c2', c3', c4'⟩ := CELL.out _ (q1.trans q3)
    have qz3 := (q0.trans q1).trans q3
    go_wp2
    go_ret
    exact ⟨by rw [HX.out]; rfl, qz3⟩
  | true =>
  cases R5 with
  | false =>
    have HX := Lib.hid (NO.out fun h => by rcases H5.out with ⟨k, -⟩ | ⟨-, k⟩; simp at k; exact k h.2.2.2.2.1)
    clear e1 e2
    go_enter Tryz.func64, Tryz.ntmps64
    go_wp2_with fail
    refine (BK.out _).mono ?_
    rintro e w1 ⟨rfl, q1⟩
    obtain ⟨c0, c1', c2', c3', c4'⟩ := CELL.out _ q1
    go_wp2_with fail
    refine (IS.out _).mono ?_
    rintro e w2 ⟨rfl, rfl⟩
    go_wp2_with fail
    refine (IC.out _ (q0.trans q1)).mono ?_
    rintro e w3 ⟨rfl, q3⟩
    obtain ⟨c0, c1', c2', c3', c4'⟩ := CELL.out _ (q1.trans q3)
    have qz3 := (q0.trans q1).trans q3
    go_wp2_with fail
    refine (PC.out _ qz3).mono ?_
    rintro e w4 ⟨rfl, q4⟩
    obtain ⟨c0, c1', c2', c3', c4'⟩ := CELL.out _ ((q1.trans q3).trans q4)
    have qz4 := qz3.trans q4
    go_wp2
    go_ret
    exact ⟨by rw [HX.out]; rfl, qz4⟩
  | true =>
  cases R6 with
  | false =>
    have HX := Lib.hid (NO.out fun h => by rcases H6.out with ⟨k, -⟩ | ⟨-, k⟩; simp at k; exact k h.2.2.2.2.2.1)
    clear e1 e2
    go_enter Tryz.func64, Tryz.ntmps64
    go_wp2_with fail
    refine (BK.out _).mono ?_
    rintro e w1 ⟨rfl, q1⟩
    obtain ⟨c0, c1', c2', c3', c4'⟩ := CELL.out _ q1
    go_wp2_with fail
    refine (IS.out _).mono ?_
    rintro e w2 ⟨rfl, rfl⟩
    go_wp2_with fail
    refine (IC.out _ (q0.trans q1)).mono ?_
    rintro e w3 ⟨rfl, q3⟩
    obtain ⟨c0, c1', c2', c3', c4'⟩ := CELL.out _ (q1.trans q3)
    have qz3 := (q0.trans q1).trans q3
    go_wp2_with fail
    refine (PC.out _ qz3).mono ?_
    rintro e w4 ⟨rfl, q4⟩
    obtain ⟨c0, c1', c2', c3', c4'⟩ := CELL.out _ ((q1.trans q3).trans q4)
    have qz4 := qz3.trans q4
    go_wp2_with fail
    refine (MN.out _ qz4).mono ?_
    rintro e w5 ⟨rfl, q5⟩
    obtain ⟨c0, c1', c2', c3', c4'⟩ := CELL.out _ (((q1.trans q3).trans q4).trans q5)
    have qz5 := qz4.trans q5
    go_wp2
    go_ret
    exact ⟨by rw [HX.out]; rfl, qz5⟩
  | true =>
  by_cases e7 : octB b ≤ 20000
  · have HX : Hid (R = true) := Lib.hid (by
      rcases HR.out with ⟨h, -⟩ | ⟨-, h⟩
      · exact h
      · refine absurd ⟨e1, isSt_iff.1 e2, E3.out, ?_, ?_, ?_, e7⟩ h
        · rcases H4.out with ⟨-, k⟩ | ⟨k, -⟩; exact k; simp at k
        · rcases H5.out with ⟨-, k⟩ | ⟨k, -⟩; exact k; simp at k
        · rcases H6.out with ⟨-, k⟩ | ⟨k, -⟩; exact k; simp at k)
    have j7 : ¬ (20000 : Int) < ((octB b : Nat) : Int) := by omega
    clear e1 e2 e7
    go_enter Tryz.func64, Tryz.ntmps64
    go_wp2_with fail
    refine (BK.out _).mono ?_
    rintro e w1 ⟨rfl, q1⟩
    obtain ⟨c0, c1', c2', c3', c4'⟩ := CELL.out _ q1
    go_wp2_with fail
    refine (IS.out _).mono ?_
    rintro e w2 ⟨rfl, rfl⟩
    go_wp2_with fail
    refine (IC.out _ (q0.trans q1)).mono ?_
    rintro e w3 ⟨rfl, q3⟩
    obtain ⟨c0, c1', c2', c3', c4'⟩ := CELL.out _ (q1.trans q3)
    have qz3 := (q0.trans q1).trans q3
    go_wp2_with fail
    refine (PC.out _ qz3).mono ?_
    rintro e w4 ⟨rfl, q4⟩
    obtain ⟨c0, c1', c2', c3', c4'⟩ := CELL.out _ ((q1.trans q3).trans q4)
    have qz4 := qz3.trans q4
    go_wp2_with fail
    refine (MN.out _ qz4).mono ?_
    rintro e w5 ⟨rfl, q5⟩
    obtain ⟨c0, c1', c2', c3', c4'⟩ := CELL.out _ (((q1.trans q3).trans q4).trans q5)
    have qz5 := qz4.trans q5
    go_wp2_with fail
    refine (OC.out _ qz5).mono ?_
    rintro e w6 ⟨rfl, q6⟩
    have qz6 := qz5.trans q6
    go_wp2
    go_ret
    exact ⟨by rw [HX.out]; rfl, qz6⟩
  · have HX := Lib.hid (NO.out fun h => e7 h.2.2.2.2.2.2)
    have j7 : (20000 : Int) < ((octB b : Nat) : Int) := by omega
    clear e1 e2 e7
    go_enter Tryz.func64, Tryz.ntmps64
    go_wp2_with fail
    refine (BK.out _).mono ?_
    rintro e w1 ⟨rfl, q1⟩
    obtain ⟨c0, c1', c2', c3', c4'⟩ := CELL.out _ q1
    go_wp2_with fail
    refine (IS.out _).mono ?_
    rintro e w2 ⟨rfl, rfl⟩
    go_wp2_with fail
    refine (IC.out _ (q0.trans q1)).mono ?_
    rintro e w3 ⟨rfl, q3⟩
    obtain ⟨c0, c1', c2', c3', c4'⟩ := CELL.out _ (q1.trans q3)
    have qz3 := (q0.trans q1).trans q3
    go_wp2_with fail
    refine (PC.out _ qz3).mono ?_
    rintro e w4 ⟨rfl, q4⟩
    obtain ⟨c0, c1', c2', c3', c4'⟩ := CELL.out _ ((q1.trans q3).trans q4)
    have qz4 := qz3.trans q4
    go_wp2_with fail
    refine (MN.out _ qz4).mono ?_
    rintro e w5 ⟨rfl, q5⟩
    obtain ⟨c0, c1', c2', c3', c4'⟩ := CELL.out _ (((q1.trans q3).trans q4).trans q5)
    have qz5 := qz4.trans q5
    go_wp2_with fail
    refine (OC.out _ qz5).mono ?_
    rintro e w6 ⟨rfl, q6⟩
    have qz6 := qz5.trans q6
    go_wp2
    go_ret
    exact ⟨by rw [HX.out]; rfl, qz6⟩
end Go.Proofs.YtbilnomafloopaaGreat

namespace Go.Proofs.YtbilnomafloopaaGreat
set_option maxRecDepth 100000
open Go.ChangeShapes Go.WideShapes Go.ChangeAt Go.RowKit Go.Shelf
set_option linter.unusedVariables false
set_option linter.unusedSimpArgs false
theorem chk_no {p : Prop} {R : Bool} (h : Chk p R) (k : ¬ p) : R = false := by
  rcases h with ⟨-, h⟩ | ⟨h, -⟩
  · exact absurd h k
  · exact h
theorem chk_yes {p : Prop} {R : Bool} (h : Chk p R) (k : p) : R = true := by
  rcases h with ⟨h, -⟩ | ⟨-, h⟩
  · exact h
  · exact absurd k h
set_option maxHeartbeats 8000000 in
theorem depCheck_any (d : Dep) (dv : Value) (w : World) (R : Bool) (hR : Chk (okD d) R) (hsm : ∀ b ∈ d.L, b.name.size ≤ 1000 ∧ smE b.L ∧ smL b.U) (hl : d.L.length ≤ 1000) (ht : Bks w w.heap.size dv d.L) :
    Calls Tryz.prog 30 #[.agg #[.int .i64 d.now, dv]] w fun e w' => e = .returned (.int .i64 (chkE R)) ∧ Q w w' := by
  obtain ⟨A, c, rfl⟩ := ht.form
  have HT := Lib.hid ht
  have HS := Lib.hid hsm
  have HR := Lib.hid hR
  have q0 := (Q.refl w).alloc (.cells #[.int .i64 d.now, .slice A d.L.length c] 24)
  have Z0 := Bx.new w 24 #[.int .i64 d.now, .slice A d.L.length c]
  have Z := Lib.hid Z0
  have b0 := Z0.cell 0
  have b1 := Z0.cell 1
  simp only [List.getElem?_toArray, List.getElem?_cons_zero, List.getElem?_cons_succ] at b0 b1
  clear ht hsm hR Z0
  by_cases h1 : d.now < 0
  · have HX := Lib.hid (chk_no HR.out fun h => by have := h.1.1; omega)
    go_enter Tryz.func30, Tryz.ntmps30
    go_wp2
    go_ret
    exact ⟨by rw [HX.out]; rfl, q0⟩
  by_cases h2 : 1099511627775 < d.now
  · have HX := Lib.hid (chk_no HR.out fun h => by have := h.1.2; omega)
    go_enter Tryz.func30, Tryz.ntmps30
    go_wp2
    go_ret
    exact ⟨by rw [HX.out]; rfl, q0⟩
  by_cases h3 : 6 < d.L.length
  · have HX := Lib.hid (chk_no HR.out fun h => by have := h.2.1; omega)
    have h3' : (6 : Int) < (d.L.length : Int) := by omega
    go_enter Tryz.func30, Tryz.ntmps30
    go_wp2
    go_ret
    exact ⟨by rw [HX.out]; rfl, q0⟩
  have h3' : ¬ (6 : Int) < (d.L.length : Int) := by omega
  have H12 : Hid ((0 ≤ d.now ∧ d.now ≤ 1099511627775) ∧ d.L.length ≤ 6) := Lib.hid ⟨⟨by omega, by omega⟩, by omega⟩
  go_enter Tryz.func30, Tryz.ntmps30
  go_wp2_with fail
  go_loopw [3, 23] (fun La I wr => ∃ i : Nat, i ≤ d.L.length ∧ I = .int .i64 i ∧ La = .string (lastD d.L i) ∧ Q (w.alloc (.cells #[.int .i64 d.now, .slice A d.L.length c] 24)) wr ∧ Hid (∀ j, j < i → stepD d j)) (fun _ I _ => d.L.length - (intOf I).toNat)
  case atStart => exact ⟨0, Nat.zero_le _, rfl, rfl, Q.refl _, Lib.hid (fun j h => by omega)⟩
  case round =>
    obtain ⟨i, hil, rfl, rfl, q, HK⟩ := hrel
    clear h1 h2 h3 h3' b0 b1
    by_cases hlt : i < d.L.length
    · obtain ⟨a, c', lv, uv, hAa, ha, -, hbv, hat⟩ := HT.out.pick i hlt
      injection hAa with hA1 hA2 hA3
      subst hA1 hA3
      obtain ⟨s0, s1, s2⟩ := HS.out _ (List.getElem_mem hlt)
      obtain ⟨c0, c1, c2, c3, c4⟩ := hat _ (q0.trans q)
      have STEP : Hid (stepD d i ↔ okB d.L[i] ∧ ltB (lastD d.L i) d.L[i].name = true ∧ ¬ lateB d.L[i] d.now) := Lib.hid ⟨fun h => h hlt, fun h _ => h⟩
      have NEXT : Hid (lastD d.L (i + 1) = d.L[i].name) := Lib.hid (lastD_succ _ _ hlt)
      obtain ⟨x, hx⟩ : ∃ x, x = d.L[i] := ⟨_, rfl⟩
      rw [← hx] at hbv c0 c1 c4 s0 s1 s2 STEP NEXT
      obtain ⟨la, hla⟩ : ∃ z, z = lastD d.L i := ⟨_, rfl⟩
      rw [← hla] at STEP ⊢
      clear hx hat hla
      obtain ⟨hv1, hv2⟩ := id hbv
      obtain ⟨A9, c9, e9, -⟩ := id hv1
      obtain ⟨A8, c8, e8, -⟩ := id hv2
      subst e9 e8
      have qa := q.alloc (.cells (bcl x (.slice A9 x.L.length c9) (.slice A8 x.U.length c8)) 60)
      have BXx := Bx.new wr 60 (bcl x (.slice A9 x.L.length c9) (.slice A8 x.U.length c8))
      obtain ⟨R1, hR1⟩ := chk_ex (okB x)
      have HR1 := Lib.hid hR1
      have C1 := Lib.hid (bktCheck_any x _ _ (wr.alloc (.cells (bcl x (.slice A9 x.L.length c9) (.slice A8 x.U.length c8)) 60)) R1 hR1 s0 s1 s2 (hbv.on (q0.trans qa)))
      have C2 : Hid (∀ r, r = x.L.any (lateE d.now) → ∀ z, Q (wr.alloc (.cells (bcl x (.slice A9 x.L.length c9) (.slice A8 x.U.length c8)) 60)) z → Calls Tryz.prog 65 #[bkt x (.slice A9 x.L.length c9) (.slice A8 x.U.length c8), .int .i64 d.now] z fun e w' => e = .returned (.bool r) ∧ Q z w') := Lib.hid fun r hr z qz => madeBehind_any x _ _ d.now z r hr s1 (hbv.on ((q0.trans qa).trans qz))
      have CB : Hid (∀ z, Q (wr.alloc (.cells (bcl x (.slice A9 x.L.length c9) (.slice A8 x.U.length c8)) 60)) z → z.cell? ⟨wr.heap.size, 0, none⟩ = some (.string x.name) ∧ z.cell? ⟨wr.heap.size, 1, none⟩ = some (.int .i64 x.st) ∧ z.cell? ⟨wr.heap.size, 2, none⟩ = some (.slice A9 x.L.length c9) ∧ z.cell? ⟨wr.heap.size, 3, none⟩ = some (.slice A8 x.U.length c8) ∧ z.cell? ⟨wr.heap.size, 4, none⟩ = some (.int .u64 (x.last : Nat)) ∧ z.cell? ⟨w.heap.size, 0, none⟩ = some (.int .i64 d.now)) := Lib.hid fun z qz => by
        obtain ⟨k0, k1, k2, k3, k4⟩ := bx_bkt (BXx.on qz)
        exact ⟨k0, k1, k2, k3, k4, by rw [((Z.out.on qa).on qz).cell]; rfl⟩
      have hilt : (i : Int) < (d.L.length : Int) := by omega
      have qend := q0.trans qa
      rw [bkt] at C1 C2
      unfold bcl at C1 C2 CB qa qend
      have LQ := ltB_leq x.name la
      clear hv1 hv2 hbv BXx hR1
      cases R1 with
      | false =>
        have HX := Lib.hid (chk_no HR.out fun h => by
          rcases HR1.out with ⟨k, -⟩ | ⟨-, k⟩
          · cases k
          · exact k (STEP.out.1 (h.2.2 i)).1)
        go_wp2_with fail
        refine (C1.out).mono ?_
        rintro e w1 ⟨rfl, q1⟩
        go_wp2
        go_ret
        exact ⟨by rw [HX.out]; rfl, qend.trans q1⟩
      | true =>
        cases hlb : ltB la x.name with
        | false =>
          have HX := Lib.hid (chk_no HR.out fun h => by have := (STEP.out.1 (h.2.2 i)).2.1; rw [hlb] at this; cases this)
          rw [hlb] at LQ
          have LQ2 : (Op.bytesLess x.name.toList la.toList || x.name.toList == la.toList) = true := LQ
          clear LQ hlb
          go_wp2_with fail
          refine (C1.out).mono ?_
          rintro e w1 ⟨rfl, q1⟩
          obtain ⟨k0, k1, k2, k3, k4, k5⟩ := CB.out _ q1
          go_wp2
          go_ret
          exact ⟨by rw [HX.out]; rfl, qend.trans q1⟩
        | true =>
          rw [hlb] at LQ
          have LQ2 : (Op.bytesLess x.name.toList la.toList || x.name.toList == la.toList) = false := LQ
          have HL : Hid (ltB la x.name = true) := Lib.hid hlb
          clear LQ hlb
          cases hm : x.L.any (lateE d.now) with
          | true =>
            have HX := Lib.hid (chk_no HR.out fun h => (STEP.out.1 (h.2.2 i)).2.2 ((lateB_iff x d.now).1 hm))
            have C3 := Lib.hid (C2.out true hm.symm)
            clear C2 hm
            go_wp2_with fail
            refine (C1.out).mono ?_
            rintro e w1 ⟨rfl, q1⟩
            obtain ⟨k0, k1, k2, k3, k4, k5⟩ := CB.out _ q1
            go_wp2_with fail
            refine (C3.out _ q1).mono ?_
            rintro e w2 ⟨rfl, q2⟩
            go_wp2
            go_ret
            exact ⟨by rw [HX.out]; rfl, (qend.trans q1).trans q2⟩
          | false =>
            have HK2 : Hid (∀ j, j < i + 1 → stepD d j) := Lib.hid (fun j hj => by
              by_cases e : j = i
              · subst e
                refine STEP.out.2 ⟨?_, HL.out, fun h => by rw [(lateB_iff x d.now).2 h] at hm; cases hm⟩
                rcases HR1.out with ⟨-, k⟩ | ⟨k, -⟩
                · exact k
                · cases k
              · exact HK.out j (by omega))
            have C3 := Lib.hid (C2.out false hm.symm)
            clear C2 hm
            go_wp2_with fail
            refine (C1.out).mono ?_
            rintro e w1 ⟨rfl, q1⟩
            obtain ⟨k0, k1, k2, k3, k4, k5⟩ := CB.out _ q1
            go_wp2_with fail
            refine (C3.out _ q1).mono ?_
            rintro e w2 ⟨rfl, q2⟩
            obtain ⟨k0, k1, k2, k3, k4, k5⟩ := CB.out _ (q1.trans q2)
            go_wp2
            go_roundw
            case rel => exact ⟨i + 1, by omega, by go_num, by rw [NEXT.out], (qa.trans q1).trans q2, HK2⟩
            case measure => simp [intOf]; omega
    · have HX := Lib.hid (chk_yes HR.out ⟨H12.out.1, H12.out.2, fun j => by
        by_cases hj : j < d.L.length
        · exact HK.out j (by omega)
        · exact fun h => absurd h hj⟩)
      have h2 : ¬ (i : Int) < (d.L.length : Int) := by omega
      go_wp2
      go_ret
      exact ⟨by rw [HX.out]; rfl, q0.trans q⟩
end Go.Proofs.YtbilnomafloopaaGreat

namespace Go.Proofs.YtbilnomafloopaaGreat
set_option maxRecDepth 100000
open Go.ChangeShapes Go.WideShapes Go.ChangeAt Go.RowKit
set_option linter.unusedVariables false
set_option linter.unusedSimpArgs false
set_option maxRecDepth 100000
end Go.Proofs.YtbilnomafloopaaGreat

namespace Go.Proofs.YtbilnomafloopaaGreat
set_option maxRecDepth 100000
open Go.ChangeShapes Go.WideShapes Go.ChangeAt Go.RowKit
set_option linter.unusedVariables false
set_option linter.unusedSimpArgs false
set_option maxRecDepth 100000
end Go.Proofs.YtbilnomafloopaaGreat

namespace Go.Proofs.YtbilnomafloopaaGreat
set_option maxRecDepth 100000
open Go.ChangeShapes Go.WideShapes Go.ChangeAt Go.RowKit Go.Shelf
set_option linter.unusedVariables false
set_option linter.unusedSimpArgs false
end Go.Proofs.YtbilnomafloopaaGreat

namespace Go.Proofs.YtbilnomafloopaaGreat
set_option maxRecDepth 100000
open Go.ChangeShapes Go.WideShapes Go.ChangeAt Go.RowKit Go.Shelf
set_option linter.unusedVariables false
set_option linter.unusedSimpArgs false
section
variable {w w' : World} {p B : Nat}
end
theorem bkt_all {w : World} {p : Nat} {b d : Bkt} {lv uv lx ux : Value} (h : Bx w p 60 (bcl d lx ux)) : Bx (((((w.setCell ⟨p, 0, none⟩ (.string b.name)).setCell ⟨p, 1, none⟩ (.int .i64 b.st)).setCell ⟨p, 2, none⟩ lv).setCell ⟨p, 3, none⟩ uv).setCell ⟨p, 4, none⟩ (.int .u64 (b.last : Nat))) p 60 (bcl b lv uv) := ((((h.set 0 _).set 1 _).set 2 _).set 3 _).set 4 _
theorem bkt_frozen {w : World} {p : Nat} {t : TypeId} {cs : Array Value} (h : Bx w p t cs) : w.frozen? ⟨p, 0, none⟩ = false ∧ w.frozen? ⟨p, 1, none⟩ = false ∧ w.frozen? ⟨p, 2, none⟩ = false ∧ w.frozen? ⟨p, 3, none⟩ = false ∧ w.frozen? ⟨p, 4, none⟩ = false := ⟨h.frozen 0, h.frozen 1, h.frozen 2, h.frozen 3, h.frozen 4⟩
def noB : Bkt := ⟨noS, 0, [], [], 0⟩
end Go.Proofs.YtbilnomafloopaaGreat

namespace Go.Proofs.YtbilnomafloopaaGreat
set_option maxRecDepth 100000
open Go.ChangeShapes Go.WideShapes Go.ChangeAt Go.RowKit
set_option linter.unusedVariables false
set_option linter.unusedSimpArgs false
set_option maxRecDepth 100000
theorem wp_snoc_part {o : Oper} {a : Act} {K : Act → World → Prop} {Q : Exit → Act → World → Prop} (w : World) (s x : Operand) (t : TypeId)
    (htt : Tryz.prog.underlying t = some (.slice 88)) (ho : o.op = .call { callee := .builtin .append, args := #[s, x], argTypes := #[t, t] })
    (base g : Nat) (v : Value) (l : List Prt) (y : Prt) {c : Nat} (hs : a.eval s = v) (hx : a.eval x = .slice (some ⟨g, 0, none⟩) 1 c) (hgg : ∀ j u, (pcl y)[j]? = some u → w.cell? ((⟨g, 0, none⟩ : Addr).add j) = some u) (h : OwnP base w v l)
    (hb : base ≤ w.heap.size) (hl : l.length ≤ 4000)
    (k : ∀ v' w', OwnP base w' v' (l ++ [y]) → w.grownBy w' v.ownBlock → K (a.put o.dst v') w') : Oper.wp Tryz.prog o a w K Q := by
  obtain ⟨i0, hi0, hz0, hz1, hz2⟩ := info_parts info_part
  obtain ⟨v', w', h1, h2, h3, -⟩ := run_append_own (P := Tryz.prog) w base t o.type 88 i0 (.agg #[.int .i64 0, .string ⟨#[]⟩]) 2 24 htt hi0 hz0 hz1 hz2 rfl (by decide) v l.length (l.flatMap pcl) h ⟨g, 0, none⟩ 1 c (pcl y) rfl hgg (pcl_one y) (by unfold maxLen; omega) (by omega) hb
  unfold Oper.wp execOp
  simp only [ho, resolve, invoke, builtin, Sem.run_bind, Sem.run_pure, Result.andThen_ok, List.map_toArray, List.map_cons, List.map_nil, hs, hx, h1]
  exact k v' w' (OwnP.onto (M := [y]) (by simpa using h2) rfl) h3
end Go.Proofs.YtbilnomafloopaaGreat

namespace Go.Proofs.YtbilnomafloopaaGreat
set_option maxRecDepth 100000
open Go.ChangeShapes Go.WideShapes Go.ChangeAt Go.RowKit
set_option linter.unusedVariables false
set_option linter.unusedSimpArgs false
set_option maxRecDepth 100000
def oneD (d : ByteArray) : ByteArray := if 2001 < d.size then d.extract 0 2001 else d
theorem oneD_size (d : ByteArray) : (oneD d).size ≤ 2001 := by
  unfold oneD; split
  · rw [size_cut _ (by omega)]; omega
  · omega
def oneP (p : Prt) : Prt := ⟨p.n, oneD p.data⟩
theorem okP_one {p : Prt} (h : okPt p) : okPt (oneP p) := ⟨h.1, h.2.1, by have := oneD_size p.data; unfold maxLen; show (oneD p.data).size ≤ _; omega⟩
def fewU (u : Upl) : Upl := ⟨u.id, fewS u.key, (u.L.take 31).map oneP⟩
def fewL (l : List Upl) : List Upl := (l.take 11).map fewU
theorem fewL_sm (l : List Upl) : smL (fewL l) := by
  refine ⟨by rw [fewL, List.length_map, List.length_take]; omega, fun x hx => ?_⟩
  rw [fewL, List.mem_map] at hx
  obtain ⟨y, hy, rfl⟩ := hx
  refine ⟨by have := fewS_size y.key; show (fewS y.key).size ≤ 1000; omega, by show ((y.L.take 31).map oneP).length ≤ 1000; rw [List.length_map, List.length_take]; omega, fun p hp => ?_⟩
  have hp2 : p ∈ (y.L.take 31).map oneP := hp
  rw [List.mem_map] at hp2
  obtain ⟨z, hz, rfl⟩ := hp2
  have := oneD_size z.data
  show (oneD z.data).size ≤ 5000
  omega
set_option maxHeartbeats 4000000 in
theorem onePt_any (p : Prt) (w : World) (hp : p.data.size ≤ maxLen) :
    Calls Tryz.prog 98 #[prt p] w fun e w' => e = .returned (prt (oneP p)) ∧ Q w w' := by
  obtain ⟨n, d⟩ := p
  simp only at hp
  unfold maxLen at hp
  have q0 := (Q.refl w).alloc (.cells #[.int .i64 n, .string d] 88)
  have b1 : Bx ((w.alloc (.cells #[.int .i64 n, .string d] 88)).alloc (.cells #[.int .i64 0, .string ⟨#[]⟩] 88)) w.heap.size 88 #[.int .i64 n, .string d] := (Bx.new w _ _).alloc _
  have b2 : Bx ((w.alloc (.cells #[.int .i64 n, .string d] 88)).alloc (.cells #[.int .i64 0, .string ⟨#[]⟩] 88)) (w.heap.size + 1) 88 #[.int .i64 0, .string ⟨#[]⟩] := by
    have := Bx.new (w.alloc (.cells #[.int .i64 n, .string d] 88)) 88 #[.int .i64 0, .string ⟨#[]⟩]
    rw [World.size_alloc] at this; exact this
  have qq := q0.alloc (.cells #[.int .i64 0, .string ⟨#[]⟩] 88)
  rw [prt, prt, oneP]
  simp only
  by_cases h : 2001 < d.size
  · have h' : (2001 : Int) < (d.size : Int) := by omega
    have HV : Hid (oneD d = d.extract 0 2001) := Lib.hid (by rw [oneD, if_pos h])
    go_enter Tryz.func98, Tryz.ntmps98
    go_wp2_with fail
    (try simp only [Exit.inBlock, Exit.then])
    refine bodyPost_ret (v := .agg #[.int .i64 n, .string (d.extract 0 2001)]) ?_ rfl ⟨by rw [HV.out], (?_ : Q w _)⟩
    · simp [results, Tryz.results98, go_sem]
    · exact ((Q.refl w).alloc _).alloc _
  · have h' : ¬ (2001 : Int) < (d.size : Int) := by omega
    have HV : Hid (oneD d = d) := Lib.hid (by rw [oneD, if_neg h])
    go_enter Tryz.func98, Tryz.ntmps98
    go_wp2_with fail
    (try simp only [Exit.inBlock, Exit.then])
    refine bodyPost_ret (v := .agg #[.int .i64 n, .string d]) ?_ rfl ⟨by rw [HV.out], (?_ : Q w _)⟩
    · simp [results, Tryz.results98, go_sem]
    · exact ((Q.refl w).alloc _).alloc _
end Go.Proofs.YtbilnomafloopaaGreat

namespace Go.Proofs.YtbilnomafloopaaGreat
set_option maxRecDepth 100000
open Go.ChangeShapes Go.WideShapes Go.ChangeAt Go.RowKit
set_option linter.unusedVariables false
set_option linter.unusedSimpArgs false
set_option maxRecDepth 100000
def F1 (base : Nat) (w : World) (p : Upl × Value) : Prop := okU p.1 ∧ (∀ x ∈ p.1.L, okPt x) ∧ OwnP base w p.2 p.1.L
def RowF (base : Nat) (w : World) (v : Value) (l : List Upl) : Prop := ∃ P : List (Upl × Value), P.map (·.1) = l ∧ RowU base w v P ∧ ∀ p ∈ P, F1 base w p
theorem F1.one {base : Nat} {w : World} {p : Upl × Value} (h : F1 base w p) : OwnU1 base w p := ⟨h.1, h.2.1, h.1.2.2, .inr h.2.2⟩
theorem RowF.own {base : Nat} {w : World} {v : Value} {l : List Upl} (h : RowF base w v l) : OwnU base w v l := by
  obtain ⟨P, e, r, f⟩ := h
  exact ⟨P, e, r, fun p hp => (f p hp).one⟩
theorem RowF.nil (base : Nat) (w : World) : RowF base w (.slice none 0 0) [] := ⟨[], rfl, World.ownsRow_nil w _ _ _, by simp⟩
theorem RowF.on {base : Nat} {w w' : World} {v : Value} {l : List Upl} (h : RowF base w v l) (q : Q w w') : RowF base w' v l := by
  obtain ⟨P, e, r, f⟩ := h
  exact ⟨P, e, r.on q, fun p hp => ⟨(f p hp).1, (f p hp).2.1, (f p hp).2.2.on q⟩⟩
theorem RowF.form {base : Nat} {w : World} {v : Value} {l : List Upl} (h : RowF base w v l) : ∃ A c, v = .slice A l.length c := h.own.form
theorem RowF.read {base : Nat} {w : World} {v : Value} {l : List Upl} (h : RowF base w v l) (hb : base ≤ w.heap.size) : Upls w w.heap.size v l := h.own.read hb
/-- A box below the rows is written. -/
theorem RowF.set {base B i : Nat} {w : World} {v u : Value} {l : List Upl} (h : RowF base w v l) (hb : B < base) : RowF base (w.setCell ⟨B, i, none⟩ u) v l := by
  obtain ⟨P, e, r, f⟩ := h
  exact ⟨P, e, ownsRow_set r hb, fun p hp => ⟨(f p hp).1, (f p hp).2.1, ownsRow_set (f p hp).2.2 hb⟩⟩
theorem part_ne_upl : 88 ≠ 66 := by decide
theorem OwnP.grownF {base : Nat} {w w' : World} {v u : Value} {P : List (Upl × Value)} {L : List Prt} (h : OwnP base w u L) (r : RowU base w v P) (g : w.grownBy w' v.ownBlock) : OwnP base w' u L := by
  have hh := World.ownsRow.kept h (row := v.ownBlock) g
  refine hh ?_
  rcases h.2 with ⟨rfl, -⟩ | ⟨g1, cap1, cur1, rfl, -, hg1, -⟩
  · left; rfl
  · right
    rcases r.2 with ⟨rfl, -⟩ | ⟨g2, cap2, cur2, rfl, -, hg2, -⟩
    · simp [Value.ownBlock]
    · simp only [Value.ownBlock, ne_eq, Option.some.injEq]
      intro e
      subst e
      rw [hg1] at hg2
      injection hg2 with hg2
      injection hg2 with _ h2 _
      exact part_ne_upl h2
theorem wpList_snoc_rowF {ops : Array Oper} {rest : List Oper} {o : Oper} {a : Act} {Q : Exit → Act → World → Prop} (w : World) (hgd : o.guard = none) (s x : Operand) (t : TypeId)
    (htt : Tryz.prog.underlying t = some (.slice 66)) (ho : o.op = .call { callee := .builtin .append, args := #[s, x], argTypes := #[t, t] })
    (base g : Nat) (v : Value) (l : List Upl) (p : Upl × Value) {c : Nat} (hs : a.eval s = v) (hx : a.eval x = .slice (some ⟨g, 0, none⟩) 1 c) (hgg : ∀ j u, (ucl p)[j]? = some u → w.cell? ((⟨g, 0, none⟩ : Addr).add j) = some u)
    (h : RowF base w v l) (hp : F1 base w p) (hb : base ≤ w.heap.size) (hl : l.length ≤ 4000)
    (k : ∀ v' w', RowF base w' v' (l ++ [p.1]) → Below base w w' → wpList Tryz.prog ops Q rest (a.put o.dst v') w') : wpList Tryz.prog ops Q (o :: rest) a w := by
  refine wpList_plain hgd fun K hK => ?_
  obtain ⟨i0, hi0, hz0, hz1, hz2⟩ := info_parts info_upl
  obtain ⟨P, hP, r, f⟩ := h
  have hPl : P.length = l.length := by rw [← hP, List.length_map]
  obtain ⟨v', w', h1, h2, h3, -⟩ := run_append_own (P := Tryz.prog) w base t o.type 66 i0 (.agg #[.int .u64 0, .string ⟨#[]⟩, .slice none 0 0]) 3 48 htt hi0 hz0 hz1 hz2 rfl (by decide) v P.length (P.flatMap ucl) r ⟨g, 0, none⟩ 1 c (ucl p) rfl hgg (ucl_one hp.one.2.shape) (by unfold maxLen; omega) (by omega) hb
  unfold Oper.wp execOp
  simp only [ho, resolve, invoke, builtin, Sem.run_bind, Sem.run_pure, Result.andThen_ok, List.map_toArray, List.map_cons, List.map_nil, hs, hx, h1]
  refine hK _ _ (k v' w' ⟨P ++ [p], by rw [List.map_append, hP]; rfl, RowU.onto (R := [p]) (by simpa using h2) rfl, fun q hq => ?_⟩ ((Below.refl base w).grown h3 hb fun k hk => (World.ownsRow.lt r k hk).1))
  rcases List.mem_append.1 hq with hq | hq
  · exact ⟨(f q hq).1, (f q hq).2.1, (f q hq).2.2.grownF r h3⟩
  · obtain rfl : q = p := by simpa using hq
    exact ⟨hp.1, hp.2.1, hp.2.2.grownF r h3⟩
end Go.Proofs.YtbilnomafloopaaGreat

