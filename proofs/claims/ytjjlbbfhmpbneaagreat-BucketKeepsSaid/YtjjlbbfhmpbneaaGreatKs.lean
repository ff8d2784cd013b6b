/-
  Contracts of the program's octets, mayNumber and Check of a bucket, of Empty and of New. Contracts of the program's mayNumber and Check of a bucket, of New and of Empty. Contracts of the program's Check of a bucket, of New and of Empty.
-/
import Derived.Test.YtjjlbbfhmpbneaaGreatKr
import Derived.Test.YtjjlbbfhmpbneaaGreatKm
import Derived.Test.YtjjlbbfhmpbneaaGreatKk
namespace Go.Proofs.YtjjlbbfhmpbneaaGreat
set_option maxRecDepth 100000
open Go.ChangeShapes Go.WideShapes Go.ChangeAt Go.RowKit Go.Shelf
set_option linter.unusedVariables false
set_option linter.unusedSimpArgs false
/-- The cells of a bucket. -/
def bcl (b : Bkt) (lv uv : Value) : Array Value := #[.string b.name, .int .i64 b.st, lv, uv, .int .u64 (b.last : Nat)]
theorem bx_bkt {w : World} {p : Nat} {b : Bkt} {lv uv : Value} (h : Bx w p 26 (bcl b lv uv)) :
    w.cell? ⟨p, 0, none⟩ = some (.string b.name) ∧ w.cell? ⟨p, 1, none⟩ = some (.int .i64 b.st) ∧ w.cell? ⟨p, 2, none⟩ = some lv ∧ w.cell? ⟨p, 3, none⟩ = some uv ∧ w.cell? ⟨p, 4, none⟩ = some (.int .u64 (b.last : Nat)) := by
  refine ⟨?_, ?_, ?_, ?_, ?_⟩ <;> (rw [h.cell]; rfl)
theorem octE_top {l : List Ent} (h : Small l) : octE l ≤ 100000000000 := by
  have := octE_le h l.length
  rwa [List.take_length] at this
theorem sizU_all {l : List Upl} (h : smL l) : sizU l ≤ 5000000000 := by
  have := sizU_top h l.length
  rwa [List.take_length] at this
set_option maxHeartbeats 4000000 in
theorem boct_any (b : Bkt) (lv uv : Value) (w : World) (hs : smE b.L) (hu : smL b.U) (hv : BktV w b lv uv) :
    Calls Tryz.prog 49 #[bkt b lv uv] w fun e w' => e = .returned (.int .i64 (octB b : Nat)) ∧ Q w w' := by
  have z1 := octE_top hs.1
  have z2 := sizU_all hu
  have q0 := (Q.refl w).alloc (.cells (bcl b lv uv) 26)
  have Z := Lib.hid (Bx.new w 26 (bcl b lv uv))
  have CO := Lib.hid (count_any b.L lv (w.alloc (.cells (bcl b lv uv) 26)) hs.1 (hv.1.on q0))
  have OC := Lib.hid fun d (q : Q w d) => octets_any b.U uv d hu (hv.2.on q)
  obtain ⟨A1, c1, rfl⟩ := hv.1.form
  obtain ⟨A2, c2, rfl⟩ := hv.2.form
  have HV : Hid (((octE b.L : Nat) : Int) + ((sizU b.U : Nat) : Int) = ((octB b : Nat) : Int)) := Lib.hid (by rw [octB]; omega)
  generalize octE b.L = x at *
  generalize sizU b.U = y at *
  generalize octB b = o at *
  clear hs hu hv
  rw [bkt]
  go_enter Tryz.func49, Tryz.ntmps49
  go_wp2_with fail
  refine (CO.out).mono ?_
  rintro e w1 ⟨rfl, q1⟩
  obtain ⟨-, -, -, e3, -⟩ := bx_bkt (Z.out.on q1)
  go_wp2_with fail
  refine (OC.out _ (q0.trans q1)).mono ?_
  rintro e w2 ⟨rfl, q2⟩
  go_wp2
  go_ret
  exact ⟨by rw [← HV.out]; rfl, (q0.trans q1).trans q2⟩
theorem eg_num1 : ∀ args w, (callFunc 97 args).run Tryz.prog w = .ok (.enter 97 args) w := enters_of Tryz.func97 (by kernel_rfl) rfl
theorem eg_num2 : ∀ args w, (callFunc 99 args).run Tryz.prog w = .ok (.enter 99 args) w := enters_of Tryz.func99 (by kernel_rfl) rfl
set_option maxHeartbeats 4000000 in
theorem num1_any (x : Ver) (top B : Nat) (w : World) (hc : w.cell? ⟨B, 0, none⟩ = some (.int .u64 (top : Nat))) (hB : B < w.heap.size) :
    Calls Tryz.prog 97 #[ver x, .pointer (some ⟨B, 0, none⟩)] w fun e w' => e = .returned (.bool (decide (top < x.id))) ∧ Q w w' := by
  have HQ := Lib.hid (fun o => (Q.refl w).alloc o)
  have hne : B ≠ w.heap.size := by omega
  rw [ver]
  by_cases h : top < x.id
  · have h1 : (top : Int) < (x.id : Int) := by omega
    have HV : Hid (decide (top < x.id) = true) := Lib.hid (by simp [h])
    clear h
    go_enter Tryz.func97, Tryz.ntmps97
    go_wp2
    go_ret
    exact ⟨ret_bool (by rw [HV.out]), HQ.out _⟩
  · have h1 : ¬ (top : Int) < (x.id : Int) := by omega
    have HV : Hid (decide (top < x.id) = false) := Lib.hid (by simp [h])
    clear h
    go_enter Tryz.func97, Tryz.ntmps97
    go_wp2
    go_ret
    exact ⟨ret_bool (by rw [HV.out]), HQ.out _⟩
set_option maxHeartbeats 4000000 in
theorem num2_any (i top : Nat) (k : ByteArray) (u : Value) (hu : ∃ A n c, u = .slice A n c) (B : Nat) (w : World) (hc : w.cell? ⟨B, 4, none⟩ = some (.int .u64 (top : Nat))) (hB : B < w.heap.size) :
    Calls Tryz.prog 99 #[.agg #[.int .u64 (i : Nat), .string k, u], .pointer (some ⟨B, 0, none⟩)] w fun e w' => e = .returned (.bool (decide (top < i))) ∧ Q w w' := by
  have HQ := Lib.hid (fun o => (Q.refl w).alloc o)
  have hne : B ≠ w.heap.size := by omega
  obtain ⟨A, n, c, rfl⟩ := hu
  by_cases h : top < i
  · have h1 : (top : Int) < (i : Int) := by omega
    have HV : Hid (decide (top < i) = true) := Lib.hid (by simp [h])
    clear h
    go_enter Tryz.func99, Tryz.ntmps99
    go_wp2
    go_ret
    exact ⟨ret_bool (by rw [HV.out]), HQ.out _⟩
  · have h1 : ¬ (top : Int) < (i : Int) := by omega
    have HV : Hid (decide (top < i) = false) := Lib.hid (by simp [h])
    clear h
    go_enter Tryz.func99, Tryz.ntmps99
    go_wp2
    go_ret
    exact ⟨ret_bool (by rw [HV.out]), HQ.out _⟩
set_option maxHeartbeats 4000000 in
theorem indexFuncQ_any (g B : Nat) (f : Nat → Bool) (l : List Upl) (v : Value) (w : World) (eg : ∀ args w, (callFunc g args).run Tryz.prog w = .ok (.enter g args) w)
    (hp : ∀ i k A n c b, Q w b → Calls Tryz.prog g #[.agg #[.int .u64 (i : Nat), .string k, .slice A n c], .pointer (some ⟨B, 0, none⟩)] b fun e w' => e = .returned (.bool (f i)) ∧ Q b w')
    (hl : l.length ≤ 1000) (ht : Upls w w.heap.size v l) :
    Calls Tryz.prog 136 #[v, .func (.func g) #[] #[.pointer (some ⟨B, 0, none⟩)]] w fun e w' => e = .returned (.int .i64 (idxL (fun x : Upl => f x.id) l)) ∧ Q w w' := by
  have HT := Lib.hid ht
  have HP := Lib.hid hp
  obtain ⟨A, c, rfl⟩ := ht.form
  clear ht hp
  go_enter Tryz.func136, Tryz.ntmps136
  go_wp2_with fail
  go_loopw [5, 8] (fun _ I wr => ∃ i : Nat, i ≤ l.length ∧ I = .int .i64 i ∧ Q w wr ∧ Hid (∀ j (hj : j < i) (hl : j < l.length), f l[j].id = false)) (fun _ I _ => l.length - (intOf I).toNat)
  case atStart => exact ⟨0, Nat.zero_le _, rfl, Q.refl _, Lib.hid (fun j h => by omega)⟩
  case round =>
    obtain ⟨i, hil, rfl, q, HK⟩ := hrel
    by_cases hlt : i < l.length
    · obtain ⟨a, c', hv, ha, A2, c2, hvs, hat⟩ := HT.out.pick i hlt
      injection hv with e1 e2 e3
      subst e1 e3
      obtain ⟨d0, d1, d2⟩ := hat _ q
      have C := HP.out l[i].id l[i].key A2 l[i].L.length c2 wr q
      cases hpx : f l[i].id with
      | true =>
        have HV := Lib.hid (idxL_hit (p := fun x : Upl => f x.id) hlt hpx HK.out)
        rw [hpx] at C
        obtain ⟨x, hx⟩ : ∃ x, x = l[i] := ⟨_, rfl⟩
        rw [← hx] at d0 d1 d2 C
        have C := Lib.hid C
        clear hx hpx hat hvs
        go_wp2_with (go_at_fn g; refine (C.out).mono ?_; rintro e w1 ⟨rfl, q1⟩)
        go_ret
        exact ⟨by rw [HV.out]; rfl, q.trans q1⟩
      | false =>
        have HK2 : Hid (∀ j (hj : j < i + 1) (hl : j < l.length), f l[j].id = false) := Lib.hid (fun j hj hl => by
          by_cases e : j = i
          · subst e; exact hpx
          · exact HK.out j (by omega) hl)
        rw [hpx] at C
        obtain ⟨x, hx⟩ : ∃ x, x = l[i] := ⟨_, rfl⟩
        rw [← hx] at d0 d1 d2 C
        have C := Lib.hid C
        clear hx hpx hat hvs
        go_wp2_with (go_at_fn g; refine (C.out).mono ?_; rintro e w1 ⟨rfl, q1⟩)
        go_roundw
        case rel => exact ⟨i + 1, by omega, by go_num, q.trans q1, HK2⟩
        case measure => simp [intOf]; omega
    · have HV := Lib.hid (idxL_none (p := fun x : Upl => f x.id) (l := l) (fun j hl => HK.out j (by omega) hl))
      go_wp2
      go_ret
      exact ⟨by rw [HV.out]; rfl, q⟩
theorem idxL_sign {α : Type} (p : α → Bool) (l : List α) : 0 ≤ idxL p l ↔ l.any p = true := by
  unfold idxL
  cases h : l.findIdx? p with
  | some i =>
    obtain ⟨hi, hp, -⟩ := List.findIdx?_eq_some_iff_getElem.1 h
    refine ⟨fun _ => List.any_eq_true.2 ⟨_, List.getElem_mem hi, hp⟩, fun _ => ?_⟩
    show (0 : Int) ≤ (i : Nat)
    omega
  | none =>
    rw [List.findIdx?_eq_none_iff] at h
    refine ⟨fun k => by simp at k, fun k => ?_⟩
    obtain ⟨x, hx, hp⟩ := List.any_eq_true.1 k
    rw [h x hx] at hp; simp at hp
set_option maxHeartbeats 4000000 in
theorem containsQ_any (g B : Nat) (f : Nat → Bool) (l : List Upl) (v : Value) (w : World) (eg : ∀ args w, (callFunc g args).run Tryz.prog w = .ok (.enter g args) w)
    (hp : ∀ i k A n c b, Q w b → Calls Tryz.prog g #[.agg #[.int .u64 (i : Nat), .string k, .slice A n c], .pointer (some ⟨B, 0, none⟩)] b fun e w' => e = .returned (.bool (f i)) ∧ Q b w')
    (hl : l.length ≤ 1000) (ht : Upls w w.heap.size v l) :
    Calls Tryz.prog 98 #[v, .func (.func g) #[] #[.pointer (some ⟨B, 0, none⟩)]] w fun e w' => e = .returned (.bool (l.any fun x => f x.id)) ∧ Q w w' := by
  have C := Lib.hid (indexFuncQ_any g B f l v w eg hp hl ht)
  have HS := idxL_sign (fun x : Upl => f x.id) l
  clear hp
  cases h : l.any (fun x => f x.id) with
  | true =>
    have k : 0 ≤ idxL (fun x : Upl => f x.id) l := HS.2 h
    clear HS
    generalize idxL (fun x : Upl => f x.id) l = r at C k
    go_enter Tryz.func98, Tryz.ntmps98
    go_wp2_with fail
    refine (C.out).mono ?_
    rintro e w1 ⟨rfl, q1⟩
    go_wp2
    go_ret
    exact ⟨by first | rfl | simp [k], q1⟩
  | false =>
    have k : ¬ 0 ≤ idxL (fun x : Upl => f x.id) l := fun e => by rw [HS.1 e] at h; simp at h
    clear HS
    generalize idxL (fun x : Upl => f x.id) l = r at C k
    go_enter Tryz.func98, Tryz.ntmps98
    go_wp2_with fail
    refine (C.out).mono ?_
    rintro e w1 ⟨rfl, q1⟩
    go_wp2
    go_ret
    exact ⟨by first | rfl | simp [k], q1⟩
end Go.Proofs.YtjjlbbfhmpbneaaGreat

namespace Go.Proofs.YtjjlbbfhmpbneaaGreat
set_option maxRecDepth 100000
open Go.ChangeShapes Go.WideShapes Go.ChangeAt Go.RowKit Go.Shelf
set_option linter.unusedVariables false
set_option linter.unusedSimpArgs false
theorem any_num {l : List Ent} {m : Nat} : okNumE l m ↔ ∀ j (h : j < l.length), (l[j].L.any fun x => decide (m < x.id)) = false := by
  refine ⟨fun h j hj => ?_, fun h e he x hx => ?_⟩
  · rw [List.any_eq_false]
    intro x hx
    have := h _ (List.getElem_mem hj) x hx
    simpa using this
  · obtain ⟨j, hj, rfl⟩ := List.getElem_of_mem he
    have := h j hj
    rw [List.any_eq_false] at this
    have := this x hx
    simpa using this
theorem any_numU {l : List Upl} {m : Nat} : okNumU l m ↔ (l.any fun x => decide (m < x.id)) = false := by
  rw [List.any_eq_false]
  refine ⟨fun h x hx => by have := h x hx; simpa using this, fun h x hx => by have := h x hx; simpa using this⟩
set_option maxHeartbeats 8000000 in
theorem mayNum_any (b : Bkt) (lv uv : Value) (w : World) (R : Bool) (hR : Chk (okNum b) R) (hs : smE b.L) (hu : smL b.U) (hv : BktV w b lv uv) :
    Calls Tryz.prog 48 #[bkt b lv uv] w fun e w' => e = .returned (.bool R) ∧ Q w w' := by
  have hmf : ∀ (fn : Fn) (first cap : Array Value) (w : World), (Instr.makeFunc fn first cap).run Tryz.prog w = .ok (.func fn first cap) w := fun _ _ _ _ => rfl
  have HV := Lib.hid hv
  have HS := Lib.hid hs
  have HR := Lib.hid hR
  have hl := hs.1.1
  have hul := hu.1
  by_cases hst : b.st = 0
  · have HTOP : Hid (topB b = 0) := Lib.hid (by simp [topB, hst])
    obtain ⟨A1, c1, rfl⟩ := hv.1.form
    obtain ⟨A2, c2, rfl⟩ := hv.2.form
    have Z := Lib.hid ((Bx.new w 26 (bcl b (.slice A1 b.L.length c1) (.slice A2 b.U.length c2))).alloc (.cells #[.int .u64 0] 24))
    have Y := Bx.new (w.alloc (.cells (bcl b (.slice A1 b.L.length c1) (.slice A2 b.U.length c2)) 26)) 24 #[.int .u64 0]
    simp only [World.size_alloc] at Y
    have Y := Lib.hid Y
    have q0 : Q w ((w.alloc (.cells (bcl b (.slice A1 b.L.length c1) (.slice A2 b.U.length c2)) 26)).alloc (.cells #[.int .u64 0] 24)) := ((Q.refl w).alloc _).alloc _
    have CF : Hid (∀ d, Q ((w.alloc (.cells (bcl b (.slice A1 b.L.length c1) (.slice A2 b.U.length c2)) 26)).alloc (.cells #[.int .u64 0] 24)) d → ∀ (L : List Ver) (A : Option Addr) (c : Nat), L.length ≤ 1000 → Vers d d.heap.size (.slice A L.length c) L → Calls Tryz.prog 96 #[.slice A L.length c, .func (.func 97) #[] #[.pointer (some ⟨w.heap.size + 1, 0, none⟩)]] d fun e w' => e = .returned (.bool (L.any fun x => decide (0 < x.id))) ∧ Q d w') := Lib.hid fun d q L A c h1 h2 =>
      containsFunc_any _ (w.heap.size + 1) (fun x => decide (0 < x.id)) L _ d eg_num1 (fun x b' q' => num1_any x 0 (w.heap.size + 1) b' (by rw [(Y.out.on (q.trans q')).cell]; rfl) (Y.out.on (q.trans q')).lt) h1 h2
    have CU : Hid (∀ d, Q ((w.alloc (.cells (bcl b (.slice A1 b.L.length c1) (.slice A2 b.U.length c2)) 26)).alloc (.cells #[.int .u64 0] 24)) d → Calls Tryz.prog 98 #[.slice A2 b.U.length c2, .func (.func 99) #[] #[.pointer (some ⟨w.heap.size, 0, none⟩)]] d fun e w' => e = .returned (.bool (b.U.any fun x => decide (b.last < x.id))) ∧ Q d w') := Lib.hid fun d q =>
      containsQ_any _ w.heap.size (fun i => decide (b.last < i)) b.U _ d eg_num2 (fun i k A n c b' q' => num2_any i b.last k _ ⟨A, n, c, rfl⟩ w.heap.size b' (bx_bkt (Z.out.on (q.trans q'))).2.2.2.2 (Z.out.on (q.trans q')).lt) hul (HV.out.2.on (q0.trans q))
    have hb0 : (b.st == 0) = true := by simpa using hst
    clear hst
    clear hs hu hv hR hul
    rw [bkt]
    go_enter Tryz.func48, Tryz.ntmps48
    go_wp2_with fail
    go_loopw [14] (fun I wr => ∃ i : Nat, i ≤ b.L.length ∧ I = .int .i64 i ∧ Q ((w.alloc (.cells (bcl b (.slice A1 b.L.length c1) (.slice A2 b.U.length c2)) 26)).alloc (.cells #[.int .u64 0] 24)) wr ∧ Hid (∀ j (h : j < i) (hl : j < b.L.length), (b.L[j].L.any fun x => decide (0 < x.id)) = false)) (fun I _ => b.L.length - (intOf I).toNat)
    case atStart => exact ⟨0, Nat.zero_le _, rfl, Q.refl _, Lib.hid (fun j h => by omega)⟩
    case round =>
      obtain ⟨i, hil, rfl, q, HK⟩ := hrel
      by_cases hlt : i < b.L.length
      · obtain ⟨a, c', hv, ha, A3, c3, hvs, hat⟩ := HV.out.1.pick i hlt
        injection hv with e1 e2 e3
        subst e1 e3
        obtain ⟨d0, d1⟩ := hat _ (q0.trans q)
        have C := CF.out _ (q.alloc (.cells #[.string b.L[i].key, .slice A3 b.L[i].L.length c3] 79)) b.L[i].L A3 c3 (HS.out.1.2 _ (List.getElem_mem hlt)).2.1 (hvs.on ((q0.trans q).alloc (.cells #[.string b.L[i].key, .slice A3 b.L[i].L.length c3] 79)))
        cases hpx : (b.L[i].L.any fun x => decide (0 < x.id)) with
        | true =>
          have HX : Hid (R = false) := Lib.hid (by
            rcases HR.out with ⟨rfl, h⟩ | ⟨rfl, -⟩
            · have := any_num.1 h.1 i hlt
              rw [HTOP.out, hpx] at this
              simp at this
            · rfl)
          rw [hpx] at C
          obtain ⟨x, hx⟩ : ∃ x, x = b.L[i] := ⟨_, rfl⟩
          rw [← hx] at d0 d1 C
          have C := Lib.hid C
          clear hx hpx hat hvs
          go_wp2_with fail
          refine (C.out).mono ?_
          rintro e w1 ⟨rfl, q1⟩
          go_wp2
          go_ret
          exact ⟨by rw [HX.out]; rfl, ((q0.trans q).alloc _).trans q1⟩
        | false =>
          have HK2 : Hid (∀ j (h : j < i + 1) (hl : j < b.L.length), (b.L[j].L.any fun x => decide (0 < x.id)) = false) := Lib.hid (fun j hj hl => by
            by_cases e : j = i
            · subst e; exact hpx
            · exact HK.out j (by omega) hl)
          rw [hpx] at C
          obtain ⟨x, hx⟩ : ∃ x, x = b.L[i] := ⟨_, rfl⟩
          rw [← hx] at d0 d1 C
          have C := Lib.hid C
          have hilt : (i : Int) < (b.L.length : Int) := by omega
          clear hx hpx hat hvs
          go_wp2_with fail
          refine (C.out).mono ?_
          rintro e w1 ⟨rfl, q1⟩
          go_wp2
          go_roundw
          case rel => exact ⟨i + 1, by omega, by go_num, (q.alloc _).trans q1, HK2⟩
          case measure => simp [intOf]; omega
      · have HX : Hid (R = !(b.U.any fun x => decide (b.last < x.id))) := Lib.hid (by
          have hE : okNumE b.L (topB b) := any_num.2 fun j h => by rw [HTOP.out]; exact HK.out j (by omega) h
          rcases HR.out with ⟨rfl, h⟩ | ⟨rfl, h⟩
          · rw [any_numU.1 h.2]; rfl
          · cases hx : (b.U.any fun x => decide (b.last < x.id)) with
            | true => rfl
            | false => exact absurd ⟨hE, any_numU.2 hx⟩ h)
        obtain ⟨-, -, -, e3, -⟩ := bx_bkt (Z.out.on q)
        have C := Lib.hid (CU.out _ q)
        have hilt : ¬ (i : Int) < (b.L.length : Int) := by omega
        generalize (b.U.any fun x => decide (b.last < x.id)) = r at C HX
        go_wp2_with fail
        refine (C.out).mono ?_
        rintro e w1 ⟨rfl, q1⟩
        go_wp2
        go_ret
        exact ⟨by rw [HX.out]; rfl, (q0.trans q).trans q1⟩
  · have HTOP : Hid (topB b = b.last) := Lib.hid (by simp [topB, hst])
    obtain ⟨A1, c1, rfl⟩ := hv.1.form
    obtain ⟨A2, c2, rfl⟩ := hv.2.form
    have Z := Lib.hid ((Bx.new w 26 (bcl b (.slice A1 b.L.length c1) (.slice A2 b.U.length c2))).alloc (.cells #[.int .u64 (b.last : Nat)] 24))
    have Y := Bx.new (w.alloc (.cells (bcl b (.slice A1 b.L.length c1) (.slice A2 b.U.length c2)) 26)) 24 #[.int .u64 (b.last : Nat)]
    simp only [World.size_alloc] at Y
    have Y := Lib.hid Y
    have q0 : Q w ((w.alloc (.cells (bcl b (.slice A1 b.L.length c1) (.slice A2 b.U.length c2)) 26)).alloc (.cells #[.int .u64 (b.last : Nat)] 24)) := ((Q.refl w).alloc _).alloc _
    have CF : Hid (∀ d, Q ((w.alloc (.cells (bcl b (.slice A1 b.L.length c1) (.slice A2 b.U.length c2)) 26)).alloc (.cells #[.int .u64 (b.last : Nat)] 24)) d → ∀ (L : List Ver) (A : Option Addr) (c : Nat), L.length ≤ 1000 → Vers d d.heap.size (.slice A L.length c) L → Calls Tryz.prog 96 #[.slice A L.length c, .func (.func 97) #[] #[.pointer (some ⟨w.heap.size + 1, 0, none⟩)]] d fun e w' => e = .returned (.bool (L.any fun x => decide (b.last < x.id))) ∧ Q d w') := Lib.hid fun d q L A c h1 h2 =>
      containsFunc_any _ (w.heap.size + 1) (fun x => decide (b.last < x.id)) L _ d eg_num1 (fun x b' q' => num1_any x b.last (w.heap.size + 1) b' (by rw [(Y.out.on (q.trans q')).cell]; rfl) (Y.out.on (q.trans q')).lt) h1 h2
    have CU : Hid (∀ d, Q ((w.alloc (.cells (bcl b (.slice A1 b.L.length c1) (.slice A2 b.U.length c2)) 26)).alloc (.cells #[.int .u64 (b.last : Nat)] 24)) d → Calls Tryz.prog 98 #[.slice A2 b.U.length c2, .func (.func 99) #[] #[.pointer (some ⟨w.heap.size, 0, none⟩)]] d fun e w' => e = .returned (.bool (b.U.any fun x => decide (b.last < x.id))) ∧ Q d w') := Lib.hid fun d q =>
      containsQ_any _ w.heap.size (fun i => decide (b.last < i)) b.U _ d eg_num2 (fun i k A n c b' q' => num2_any i b.last k _ ⟨A, n, c, rfl⟩ w.heap.size b' (bx_bkt (Z.out.on (q.trans q'))).2.2.2.2 (Z.out.on (q.trans q')).lt) hul (HV.out.2.on (q0.trans q))
    have hb1 : (b.st == 0) = false := by simpa using hst
    clear hs hu hv hR hul
    rw [bkt]
    go_enter Tryz.func48, Tryz.ntmps48
    go_wp2_with fail
    go_loopw [14] (fun I wr => ∃ i : Nat, i ≤ b.L.length ∧ I = .int .i64 i ∧ Q ((w.alloc (.cells (bcl b (.slice A1 b.L.length c1) (.slice A2 b.U.length c2)) 26)).alloc (.cells #[.int .u64 (b.last : Nat)] 24)) wr ∧ Hid (∀ j (h : j < i) (hl : j < b.L.length), (b.L[j].L.any fun x => decide (b.last < x.id)) = false)) (fun I _ => b.L.length - (intOf I).toNat)
    case atStart => exact ⟨0, Nat.zero_le _, rfl, Q.refl _, Lib.hid (fun j h => by omega)⟩
    case round =>
      obtain ⟨i, hil, rfl, q, HK⟩ := hrel
      by_cases hlt : i < b.L.length
      · obtain ⟨a, c', hv, ha, A3, c3, hvs, hat⟩ := HV.out.1.pick i hlt
        injection hv with e1 e2 e3
        subst e1 e3
        obtain ⟨d0, d1⟩ := hat _ (q0.trans q)
        have C := CF.out _ (q.alloc (.cells #[.string b.L[i].key, .slice A3 b.L[i].L.length c3] 79)) b.L[i].L A3 c3 (HS.out.1.2 _ (List.getElem_mem hlt)).2.1 (hvs.on ((q0.trans q).alloc (.cells #[.string b.L[i].key, .slice A3 b.L[i].L.length c3] 79)))
        cases hpx : (b.L[i].L.any fun x => decide (b.last < x.id)) with
        | true =>
          have HX : Hid (R = false) := Lib.hid (by
            rcases HR.out with ⟨rfl, h⟩ | ⟨rfl, -⟩
            · have := any_num.1 h.1 i hlt
              rw [HTOP.out, hpx] at this
              simp at this
            · rfl)
          rw [hpx] at C
          obtain ⟨x, hx⟩ : ∃ x, x = b.L[i] := ⟨_, rfl⟩
          rw [← hx] at d0 d1 C
          have C := Lib.hid C
          clear hx hpx hat hvs
          go_wp2_with fail
          refine (C.out).mono ?_
          rintro e w1 ⟨rfl, q1⟩
          go_wp2
          go_ret
          exact ⟨by rw [HX.out]; rfl, ((q0.trans q).alloc _).trans q1⟩
        | false =>
          have HK2 : Hid (∀ j (h : j < i + 1) (hl : j < b.L.length), (b.L[j].L.any fun x => decide (b.last < x.id)) = false) := Lib.hid (fun j hj hl => by
            by_cases e : j = i
            · subst e; exact hpx
            · exact HK.out j (by omega) hl)
          rw [hpx] at C
          obtain ⟨x, hx⟩ : ∃ x, x = b.L[i] := ⟨_, rfl⟩
          rw [← hx] at d0 d1 C
          have C := Lib.hid C
          have hilt : (i : Int) < (b.L.length : Int) := by omega
          clear hx hpx hat hvs
          go_wp2_with fail
          refine (C.out).mono ?_
          rintro e w1 ⟨rfl, q1⟩
          go_wp2
          go_roundw
          case rel => exact ⟨i + 1, by omega, by go_num, (q.alloc _).trans q1, HK2⟩
          case measure => simp [intOf]; omega
      · have HX : Hid (R = !(b.U.any fun x => decide (b.last < x.id))) := Lib.hid (by
          have hE : okNumE b.L (topB b) := any_num.2 fun j h => by rw [HTOP.out]; exact HK.out j (by omega) h
          rcases HR.out with ⟨rfl, h⟩ | ⟨rfl, h⟩
          · rw [any_numU.1 h.2]; rfl
          · cases hx : (b.U.any fun x => decide (b.last < x.id)) with
            | true => rfl
            | false => exact absurd ⟨hE, any_numU.2 hx⟩ h)
        obtain ⟨-, -, -, e3, -⟩ := bx_bkt (Z.out.on q)
        have C := Lib.hid (CU.out _ q)
        have hilt : ¬ (i : Int) < (b.L.length : Int) := by omega
        generalize (b.U.any fun x => decide (b.last < x.id)) = r at C HX
        go_wp2_with fail
        refine (C.out).mono ?_
        rintro e w1 ⟨rfl, q1⟩
        go_wp2
        go_ret
        exact ⟨by rw [HX.out]; rfl, (q0.trans q).trans q1⟩
end Go.Proofs.YtjjlbbfhmpbneaaGreat

namespace Go.Proofs.YtjjlbbfhmpbneaaGreat
set_option maxRecDepth 100000
open Go.ChangeShapes Go.WideShapes Go.ChangeAt Go.RowKit Go.Shelf
set_option linter.unusedVariables false
set_option linter.unusedSimpArgs false
/-- What the walk of Check wants of each of its steps, at whatever world behind the box. -/
theorem isSt_iff {s : Int} : isSt s = true ↔ 0 ≤ s ∧ s ≤ 2 := by
  simp only [isSt, Bool.and_eq_true, decide_eq_true_eq]
set_option maxHeartbeats 8000000 in
theorem bktCheck_any (b : Bkt) (lv uv : Value) (w : World) (R : Bool) (hR : Chk (okB b) R) (hn : b.name.size ≤ 1000) (hs : smE b.L) (hu : smL b.U) (hv : BktV w b lv uv) :
    Calls Tryz.prog 15 #[bkt b lv uv] w fun e w' => e = .returned (.int .i64 (chkE R)) ∧ Q w w' := by
  have q0 := (Q.refl w).alloc (.cells (bcl b lv uv) 26)
  have Z := Lib.hid (Bx.new w 26 (bcl b lv uv))
  have HV := Lib.hid hv
  have HR := Lib.hid hR
  have BK := Lib.hid fun d => bucket_any b.name d hn
  have IS := Lib.hid fun d => isState_any d b.st
  obtain ⟨R4, h4⟩ := chkI_ex b.L
  obtain ⟨R5, h5⟩ := chk_ex (okUps b.U)
  obtain ⟨R6, h6⟩ := chk_ex (okNum b)
  have IC := Lib.hid fun d (q : Q w d) => checkE_any b.L lv d R4 h4 hs.1 (hv.1.on q)
  have PC := Lib.hid fun d (q : Q w d) => checkU_any b.U uv d R5 h5 hu (hv.2.on q)
  have MN := Lib.hid fun d (q : Q w d) => mayNum_any b lv uv d R6 h6 hs hu (hv.on q)
  have OC := Lib.hid fun d (q : Q w d) => boct_any b lv uv d hs hu (hv.on q)
  obtain ⟨A1, c1, rfl⟩ := hv.1.form
  obtain ⟨A2, c2, rfl⟩ := hv.2.form
  rw [bkt] at MN OC
  rw [bkt]
  have NO : Hid (¬ okB b → R = false) := Lib.hid fun h => by
    rcases HR.out with ⟨-, k⟩ | ⟨rfl, -⟩
    · exact absurd k h
    · rfl
  have H4 := Lib.hid h4
  have H5 := Lib.hid h5
  have H6 := Lib.hid h6
  have CELL : Hid (∀ d, Q (w.alloc (.cells (bcl b (.slice A1 b.L.length c1) (.slice A2 b.U.length c2)) 26)) d → d.cell? ⟨w.heap.size, 0, none⟩ = some (.string b.name) ∧ d.cell? ⟨w.heap.size, 1, none⟩ = some (.int .i64 b.st) ∧ d.cell? ⟨w.heap.size, 2, none⟩ = some (.slice A1 b.L.length c1) ∧ d.cell? ⟨w.heap.size, 3, none⟩ = some (.slice A2 b.U.length c2) ∧ d.cell? ⟨w.heap.size, 4, none⟩ = some (.int .u64 (b.last : Nat))) := Lib.hid fun d q => bx_bkt (Z.out.on q)
  clear hn hs hu hv hR h4 h5 h6
  cases e1 : bucketO b.name with
  | false =>
    have HX := Lib.hid (NO.out fun h => by rw [h.1] at e1; simp at e1)
    rw [e1] at BK
    clear e1
    go_enter Tryz.func15, Tryz.ntmps15
    go_wp2_with fail
    refine (BK.out _).mono ?_
    rintro e w1 ⟨rfl, q1⟩
    obtain ⟨c0, c1', c2', c3', c4'⟩ := CELL.out _ q1
    go_wp2
    go_ret
    exact ⟨by rw [HX.out]; rfl, q0.trans q1⟩
  | true =>
  rw [e1] at BK
  cases e2 : isSt b.st with
  | false =>
    have HX := Lib.hid (NO.out fun h => by rw [isSt_iff.2 h.2.1] at e2; simp at e2)
    rw [e2] at IS
    clear e1 e2
    go_enter Tryz.func15, Tryz.ntmps15
    go_wp2_with fail
    refine (BK.out _).mono ?_
    rintro e w1 ⟨rfl, q1⟩
    obtain ⟨c0, c1', c2', c3', c4'⟩ := CELL.out _ q1
    go_wp2_with fail
    refine (IS.out _).mono ?_
    rintro e w2 ⟨rfl, rfl⟩
    go_wp2
    go_ret
    exact ⟨by rw [HX.out]; rfl, q0.trans q1⟩
  | true =>
  rw [e2] at IS
  by_cases e3 : b.last ≤ 281474976710655
  case neg =>
    have HX := Lib.hid (NO.out fun h => e3 h.2.2.1)
    have j3 : (281474976710655 : Int) < (b.last : Int) := by omega
    clear e1 e2 e3
    go_enter Tryz.func15, Tryz.ntmps15
    go_wp2_with fail
    refine (BK.out _).mono ?_
    rintro e w1 ⟨rfl, q1⟩
    obtain ⟨c0, c1', c2', c3', c4'⟩ := CELL.out _ q1
    go_wp2_with fail
    refine (IS.out _).mono ?_
    rintro e w2 ⟨rfl, rfl⟩
    go_wp2
    go_ret
    exact ⟨by rw [HX.out]; rfl, q0.trans q1⟩
  have j3 : ¬ (281474976710655 : Int) < (b.last : Int) := by omega
  have E3 := Lib.hid e3
  clear e3
  cases R4 with
  | false =>
    have HX := Lib.hid (NO.out fun h => by rcases H4.out with ⟨k, -⟩ | ⟨-, k⟩; simp at k; exact k h.2.2.2.1)
    clear e1 e2
    go_enter Tryz.func15, Tryz.ntmps15
    go_wp2_with fail
    refine (BK.out _).mono ?_
    rintro e w1 ⟨rfl, q1⟩
    obtain ⟨c0, c1', c2', c3', c4'⟩ := CELL.out _ q1
    go_wp2_with fail
    refine (IS.out _).mono ?_
    rintro e w2 ⟨rfl, rfl⟩
    go_wp2_with fail
    refine (IC.out _ (q0.trans q1)).mono ?_
    rintro e w3 ⟨rfl, q3⟩
    obtain ⟨c0, c1', c2', c3', c4'⟩ := CELL.out _ (q1.trans q3)
    have qz3 := (q0.trans q1).trans q3
    go_wp2
    go_ret
    exact ⟨by rw [HX.out]; rfl, qz3⟩
  | true =>
  cases R5 with
  | false =>
    have HX := Lib.hid (NO.out fun h => by rcases H5.out with ⟨k, -⟩ | ⟨-, k⟩; simp at k; exact k h.2.2.2.2.1)
    clear e1 e2
    go_enter Tryz.func15, Tryz.ntmps15
    go_wp2_with fail
    refine (BK.out _).mono ?_
    rintro e w1 ⟨rfl, q1⟩
    obtain ⟨c0, c1', c2', c3', c4'⟩ := CELL.out _ q1
    go_wp2_with fail
    refine (IS.out _).mono ?_
    rintro e w2 ⟨rfl, rfl⟩
    go_wp2_with fail
    refine (IC.out _ (q0.trans q1)).mono ?_
    rintro e w3 ⟨rfl, q3⟩
    obtain ⟨c0, c1', c2', c3', c4'⟩ := CELL.out _ (q1.trans q3)
    have qz3 := (q0.trans q1).trans q3
    go_wp2_with fail
    refine (PC.out _ qz3).mono ?_
    rintro e w4 ⟨rfl, q4⟩
    obtain ⟨c0, c1', c2', c3', c4'⟩ := CELL.out _ ((q1.trans q3).trans q4)
    have qz4 := qz3.trans q4
    go_wp2
    go_ret
    exact ⟨by rw [HX.out]; rfl, qz4⟩
  | true =>
  cases R6 with
  | false =>
    have HX := Lib.hid (NO.out fun h => by rcases H6.out with ⟨k, -⟩ | ⟨-, k⟩; simp at k; exact k h.2.2.2.2.2.1)
    clear e1 e2
    go_enter Tryz.func15, Tryz.ntmps15
    go_wp2_with fail
    refine (BK.out _).mono ?_
    rintro e w1 ⟨rfl, q1⟩
    obtain ⟨c0, c1', c2', c3', c4'⟩ := CELL.out _ q1
    go_wp2_with fail
    refine (IS.out _).mono ?_
    rintro e w2 ⟨rfl, rfl⟩
    go_wp2_with fail
    refine (IC.out _ (q0.trans q1)).mono ?_
    rintro e w3 ⟨rfl, q3⟩
    obtain ⟨c0, c1', c2', c3', c4'⟩ := CELL.out _ (q1.trans q3)
    have qz3 := (q0.trans q1).trans q3
    go_wp2_with fail
    refine (PC.out _ qz3).mono ?_
    rintro e w4 ⟨rfl, q4⟩
    obtain ⟨c0, c1', c2', c3', c4'⟩ := CELL.out _ ((q1.trans q3).trans q4)
    have qz4 := qz3.trans q4
    go_wp2_with fail
    refine (MN.out _ qz4).mono ?_
    rintro e w5 ⟨rfl, q5⟩
    obtain ⟨c0, c1', c2', c3', c4'⟩ := CELL.out _ (((q1.trans q3).trans q4).trans q5)
    have qz5 := qz4.trans q5
    go_wp2
    go_ret
    exact ⟨by rw [HX.out]; rfl, qz5⟩
  | true =>
  by_cases e7 : octB b ≤ 20000
  · have HX : Hid (R = true) := Lib.hid (by
      rcases HR.out with ⟨h, -⟩ | ⟨-, h⟩
      · exact h
      · refine absurd ⟨e1, isSt_iff.1 e2, E3.out, ?_, ?_, ?_, e7⟩ h
        · rcases H4.out with ⟨-, k⟩ | ⟨k, -⟩; exact k; simp at k
        · rcases H5.out with ⟨-, k⟩ | ⟨k, -⟩; exact k; simp at k
        · rcases H6.out with ⟨-, k⟩ | ⟨k, -⟩; exact k; simp at k)
    have j7 : ¬ (20000 : Int) < ((octB b : Nat) : Int) := by omega
    clear e1 e2 e7
    go_enter Tryz.func15, Tryz.ntmps15
    go_wp2_with fail
    refine (BK.out _).mono ?_
    rintro e w1 ⟨rfl, q1⟩
    obtain ⟨c0, c1', c2', c3', c4'⟩ := CELL.out _ q1
    go_wp2_with fail
    refine (IS.out _).mono ?_
    rintro e w2 ⟨rfl, rfl⟩
    go_wp2_with fail
    refine (IC.out _ (q0.trans q1)).mono ?_
    rintro e w3 ⟨rfl, q3⟩
    obtain ⟨c0, c1', c2', c3', c4'⟩ := CELL.out _ (q1.trans q3)
    have qz3 := (q0.trans q1).trans q3
    go_wp2_with fail
    refine (PC.out _ qz3).mono ?_
    rintro e w4 ⟨rfl, q4⟩
    obtain ⟨c0, c1', c2', c3', c4'⟩ := CELL.out _ ((q1.trans q3).trans q4)
    have qz4 := qz3.trans q4
    go_wp2_with fail
    refine (MN.out _ qz4).mono ?_
    rintro e w5 ⟨rfl, q5⟩
    obtain ⟨c0, c1', c2', c3', c4'⟩ := CELL.out _ (((q1.trans q3).trans q4).trans q5)
    have qz5 := qz4.trans q5
    go_wp2_with fail
    refine (OC.out _ qz5).mono ?_
    rintro e w6 ⟨rfl, q6⟩
    have qz6 := qz5.trans q6
    go_wp2
    go_ret
    exact ⟨by rw [HX.out]; rfl, qz6⟩
  · have HX := Lib.hid (NO.out fun h => e7 h.2.2.2.2.2.2)
    have j7 : (20000 : Int) < ((octB b : Nat) : Int) := by omega
    clear e1 e2 e7
    go_enter Tryz.func15, Tryz.ntmps15
    go_wp2_with fail
    refine (BK.out _).mono ?_
    rintro e w1 ⟨rfl, q1⟩
    obtain ⟨c0, c1', c2', c3', c4'⟩ := CELL.out _ q1
    go_wp2_with fail
    refine (IS.out _).mono ?_
    rintro e w2 ⟨rfl, rfl⟩
    go_wp2_with fail
    refine (IC.out _ (q0.trans q1)).mono ?_
    rintro e w3 ⟨rfl, q3⟩
    obtain ⟨c0, c1', c2', c3', c4'⟩ := CELL.out _ (q1.trans q3)
    have qz3 := (q0.trans q1).trans q3
    go_wp2_with fail
    refine (PC.out _ qz3).mono ?_
    rintro e w4 ⟨rfl, q4⟩
    obtain ⟨c0, c1', c2', c3', c4'⟩ := CELL.out _ ((q1.trans q3).trans q4)
    have qz4 := qz3.trans q4
    go_wp2_with fail
    refine (MN.out _ qz4).mono ?_
    rintro e w5 ⟨rfl, q5⟩
    obtain ⟨c0, c1', c2', c3', c4'⟩ := CELL.out _ (((q1.trans q3).trans q4).trans q5)
    have qz5 := qz4.trans q5
    go_wp2_with fail
    refine (OC.out _ qz5).mono ?_
    rintro e w6 ⟨rfl, q6⟩
    have qz6 := qz5.trans q6
    go_wp2
    go_ret
    exact ⟨by rw [HX.out]; rfl, qz6⟩
set_option maxHeartbeats 4000000 in
theorem bnew_any (s : ByteArray) (w : World) (hs : s.size ≤ 1000) (h : bucketO s = true) :
    Calls Tryz.prog 18 #[.string s] w fun e w' => e = .returned (.tuple #[bkt ⟨s, 0, [], [], 0⟩ (.slice none 0 0) (.slice none 0 0), .int .i64 0]) ∧ Q w w' := by
  have BK := Lib.hid fun d => bucket_any s d hs
  rw [h] at BK
  clear h hs
  go_enter Tryz.func18, Tryz.ntmps18
  go_wp2_with fail
  refine (BK.out _).mono ?_
  rintro e w1 ⟨rfl, q1⟩
  have q0 := (Q.refl w).alloc (.cells (bcl ⟨noS, 0, [], [], 0⟩ (.slice none 0 0) (.slice none 0 0)) 26)
  have bx := (Bx.new w 26 (bcl ⟨noS, 0, [], [], 0⟩ (.slice none 0 0) (.slice none 0 0))).on q1
  obtain ⟨r0, r1, r2, r3, r4⟩ := bx_bkt bx
  have h0 := bx.frozen 0
  have h1 := bx.frozen 1
  have h2 := bx.frozen 2
  have h3 := bx.frozen 3
  have h4 := bx.frozen 4
  go_wp2
  (try simp only [Exit.inBlock, Exit.then])
  obtain ⟨wC, hwC⟩ : ∃ wC, wC = ((((w1.setCell ⟨w.heap.size, 0, none⟩ (.string s)).setCell ⟨w.heap.size, 1, none⟩ (.int .i64 0)).setCell ⟨w.heap.size, 2, none⟩ (.slice none 0 0)).setCell ⟨w.heap.size, 3, none⟩ (.slice none 0 0)).setCell ⟨w.heap.size, 4, none⟩ (.int .u64 0) := ⟨_, rfl⟩
  have bD : Bx wC w.heap.size 26 (bcl ⟨s, 0, [], [], 0⟩ (.slice none 0 0) (.slice none 0 0)) := by rw [hwC]; exact ((((bx.set 0 _).set 1 _).set 2 _).set 3 _).set 4 _
  have qC : Q w wC := by rw [hwC]; exact Q.set (Q.set (Q.set (Q.set (Q.set (q0.trans q1) (Nat.le_refl _) _) (Nat.le_refl _) _) (Nat.le_refl _) _) (Nat.le_refl _) _) (Nat.le_refl _) _
  rw [← hwC]
  obtain ⟨v0, v1, v2, v3, v4⟩ := bx_bkt bD
  refine bodyPost_ret (v := .tuple #[.agg #[.string s, .int .i64 0, .slice none 0 0, .slice none 0 0, .int .u64 0], .int .i64 0]) ?_ rfl ⟨rfl, qC⟩
  rw [results_cell_tmp rfl]
  go_simp
set_option maxHeartbeats 4000000 in
theorem bempty_any (b : Bkt) (lv uv : Value) (w : World) (r : Bool) (hr : r = (decide (manyE b.L = 0) && decide (b.U.length = 0))) (hs : smE b.L) (hu : smL b.U) (hv : BktV w b lv uv) :
    Calls Tryz.prog 53 #[bkt b lv uv] w fun e w' => e = .returned (.bool r) ∧ Q w w' := by
  have q0 := (Q.refl w).alloc (.cells (bcl b lv uv) 26)
  have Z := Lib.hid (Bx.new w 26 (bcl b lv uv))
  have CO := Lib.hid (count_any b.L lv (w.alloc (.cells (bcl b lv uv) 26)) hs.1 (hv.1.on q0))
  obtain ⟨A1, c1, rfl⟩ := hv.1.form
  obtain ⟨A2, c2, rfl⟩ := hv.2.form
  have HRR := Lib.hid hr
  clear hr hs hu hv
  rw [bkt]
  by_cases h1 : manyE b.L = 0
  · rw [h1] at CO HRR
    clear h1
    by_cases h2 : b.U.length = 0
    · have hx : r = true := by rw [HRR.out, h2]; rfl
      have h3 : ((b.U.length : Int) == 0) = true := by simp [h2]
      clear h2 HRR
      subst hx
      go_enter Tryz.func53, Tryz.ntmps53
      go_wp2_with fail
      refine (CO.out).mono ?_
      rintro e w1 ⟨rfl, q1⟩
      obtain ⟨-, -, -, e3, -⟩ := bx_bkt (Z.out.on q1)
      go_wp2
      go_ret
      exact ⟨by first | rfl | simp [*], q0.trans q1⟩
    · have hx : r = false := by rw [HRR.out]; simp [h2]
      have h3 : ((b.U.length : Int) == 0) = false := by simp; simpa using h2
      clear h2 HRR
      subst hx
      go_enter Tryz.func53, Tryz.ntmps53
      go_wp2_with fail
      refine (CO.out).mono ?_
      rintro e w1 ⟨rfl, q1⟩
      obtain ⟨-, -, -, e3, -⟩ := bx_bkt (Z.out.on q1)
      go_wp2
      go_ret
      exact ⟨by first | rfl | simp [*], q0.trans q1⟩
  · have hx : r = false := by rw [HRR.out]; simp [h1]
    have h3 : (((manyE b.L : Nat) : Int) == 0) = false := by simp; omega
    clear h1 HRR
    subst hx
    generalize manyE b.L = y at *
    go_enter Tryz.func53, Tryz.ntmps53
    go_wp2_with fail
    refine (CO.out).mono ?_
    rintro e w1 ⟨rfl, q1⟩
    obtain ⟨-, -, -, e3, -⟩ := bx_bkt (Z.out.on q1)
    go_wp2
    go_ret
    exact ⟨by first | rfl | simp [*], q0.trans q1⟩
end Go.Proofs.YtjjlbbfhmpbneaaGreat

