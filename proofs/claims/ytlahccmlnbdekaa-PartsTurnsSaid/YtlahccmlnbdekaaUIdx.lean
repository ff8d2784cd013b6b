/-
  Is there a piece that lacks something: contracts of ContainsFunc and IndexFunc over pieces.
-/
import Derived.Test.YtlahccmlnbdekaaUBuild
namespace Go.Proofs.Ytlahccmlnbdekaa
open Go.ChangeShapes Go.WideShapes Go.ChangeAt Go.RowKit
set_option linter.unusedVariables false
set_option linter.unusedSimpArgs false
set_option maxRecDepth 100000

def idxC (l : List Pce) (f : Pce → Bool) : Int := match l.findIdx? f with
  | some i => (i : Int)
  | none => -1
theorem idxC_hit {l : List Pce} {f : Pce → Bool} {i : Nat} (hl : i < l.length) (h : f l[i] = true) (k : ∀ j (hj : j < i) (hl : j < l.length), f l[j] = false) : idxC l f = i := by
  have : l.findIdx? f = some i := by
    rw [List.findIdx?_eq_some_iff_getElem]
    exact ⟨hl, h, fun j hj => by simpa using k j hj (by omega)⟩
  rw [idxC, this]
theorem idxC_none {l : List Pce} {f : Pce → Bool} (k : ∀ j (hl : j < l.length), f l[j] = false) : idxC l f = -1 := by
  have : l.findIdx? f = none := by
    rw [List.findIdx?_eq_none_iff]
    intro x hx
    obtain ⟨j, hj, rfl⟩ := List.getElem_of_mem hx
    exact k j hj
  rw [idxC, this]
theorem idxC_any (l : List Pce) (f : Pce → Bool) : (l.any f = true ∧ ∃ i : Nat, idxC l f = i ∧ i < l.length) ∨ (l.any f = false ∧ idxC l f = -1) := by
  cases h : l.findIdx? f with
  | none =>
    right
    refine ⟨?_, by rw [idxC, h]⟩
    rw [List.findIdx?_eq_none_iff] at h
    rw [List.any_eq_false]
    intro x hx
    simpa using h x hx
  | some i =>
    left
    have h2 := h
    rw [List.findIdx?_eq_some_iff_getElem] at h2
    obtain ⟨hi, hf, -⟩ := h2
    exact ⟨List.any_eq_true.2 ⟨_, List.getElem_mem hi, hf⟩, i, by rw [idxC, h], hi⟩
set_option maxHeartbeats 4000000 in
theorem indexC_any (g : Nat) (A0 : Option Addr) (n0 c0 : Nat) (f : Pce → Bool) (l : List Pce) (v : Value) (w : World) (eg : ∀ args w, (callFunc g args).run Try.prog w = .ok (.enter g args) w)
    (hp : ∀ x b, Q w b → Calls Try.prog g #[.slice A0 n0 c0, pce x] b fun e w' => e = .returned (.bool (f x)) ∧ Q b w')
    (hl : l.length ≤ 1000) (ht : Pces w w.heap.size v l) :
    Calls Try.prog 64 #[v, .func (.func g) #[.slice A0 n0 c0] #[]] w fun e w' => e = .returned (.int .i64 (idxC l f)) ∧ Q w w' := by
  have HT := Lib.hid ht
  have HP := Lib.hid hp
  obtain ⟨A, c, rfl⟩ := ht.form
  clear ht hp
  go_enter Try.func64, Try.ntmps64
  go_wp2_with fail
  go_loopw [5, 8] (fun _ I wr => ∃ i : Nat, i ≤ l.length ∧ I = .int .i64 i ∧ Q w wr ∧ Hid (∀ j (hj : j < i) (hl : j < l.length), f l[j] = false)) (fun _ I _ => l.length - (intOf I).toNat)
  case atStart => exact ⟨0, Nat.zero_le _, rfl, Q.refl _, Lib.hid (fun j h => by omega)⟩
  case round =>
    obtain ⟨i, hil, rfl, q, HK⟩ := hrel
    by_cases hlt : i < l.length
    · obtain ⟨a, c', hv, ha, -, hat⟩ := HT.out.pick i hlt
      injection hv with e1 e2 e3
      subst e1 e3
      obtain ⟨d0, d1⟩ := hat _ q
      have C := HP.out l[i] wr q
      simp only [pce] at C
      cases hpx : f l[i] with
      | true =>
        have HV := Lib.hid (idxC_hit hlt hpx HK.out)
        rw [hpx] at C
        obtain ⟨x, hx⟩ : ∃ x, x = l[i] := ⟨_, rfl⟩
        rw [← hx] at d0 d1 C
        have C := Lib.hid C
        clear hx hpx hat
        go_wp2_with (go_at_fn g; refine (C.out).mono ?_; rintro e w1 ⟨rfl, q1⟩)
        go_ret
        exact ⟨by rw [HV.out]; rfl, q.trans q1⟩
      | false =>
        have HK2 : Hid (∀ j (hj : j < i + 1) (hl : j < l.length), f l[j] = false) := Lib.hid (fun j hj hl => by
          by_cases e : j = i
          · subst e; exact hpx
          · exact HK.out j (by omega) hl)
        rw [hpx] at C
        obtain ⟨x, hx⟩ : ∃ x, x = l[i] := ⟨_, rfl⟩
        rw [← hx] at d0 d1 C
        have C := Lib.hid C
        clear hx hpx hat
        go_wp2_with (go_at_fn g; refine (C.out).mono ?_; rintro e w1 ⟨rfl, q1⟩)
        go_roundw
        case rel => exact ⟨i + 1, by omega, by go_num, q.trans q1, HK2⟩
        case measure => simp [intOf]; omega
    · have HV := Lib.hid (idxC_none (l := l) (f := f) (fun j hl => HK.out j (by omega) hl))
      go_wp2
      go_ret
      exact ⟨by rw [HV.out]; rfl, q⟩
set_option maxHeartbeats 4000000 in
theorem containsC_any (g : Nat) (A0 : Option Addr) (n0 c0 : Nat) (f : Pce → Bool) (l : List Pce) (v : Value) (w : World) (eg : ∀ args w, (callFunc g args).run Try.prog w = .ok (.enter g args) w)
    (hp : ∀ x b, Q w b → Calls Try.prog g #[.slice A0 n0 c0, pce x] b fun e w' => e = .returned (.bool (f x)) ∧ Q b w')
    (hl : l.length ≤ 1000) (ht : Pces w w.heap.size v l) :
    Calls Try.prog 48 #[v, .func (.func g) #[.slice A0 n0 c0] #[]] w fun e w' => e = .returned (.bool (l.any f)) ∧ Q w w' := by
  have C := Lib.hid (indexC_any g A0 n0 c0 f l v w eg hp hl ht)
  obtain ⟨A, c, rfl⟩ := ht.form
  rcases idxC_any l f with ⟨ha, i, hi, hlt⟩ | ⟨ha, hi⟩
  · rw [hi] at C
    have hge : (i : Int) ≥ 0 := by omega
    have HV := Lib.hid ha
    clear ha hi hlt hp ht eg
    go_enter Try.func48, Try.ntmps48
    go_wp2_with fail
    refine (C.out).mono ?_
    rintro e w1 ⟨rfl, q1⟩
    go_wp2
    go_ret
    exact ⟨ret_bool (by rw [HV.out]; (try rfl); try (simp; try omega)), q1⟩
  · rw [hi] at C
    have HV := Lib.hid ha
    clear ha hi hp ht eg
    go_enter Try.func48, Try.ntmps48
    go_wp2_with fail
    refine (C.out).mono ?_
    rintro e w1 ⟨rfl, q1⟩
    go_wp2
    go_ret
    exact ⟨ret_bool (by rw [HV.out]; (try rfl); try (simp; try omega)), q1⟩
theorem eg_lackP : ∀ args w, (callFunc 49 args).run Try.prog w = .ok (.enter 49 args) w := enters_of Try.func49 (by kernel_rfl) rfl
theorem eg_lackO : ∀ args w, (callFunc 50 args).run Try.prog w = .ok (.enter 50 args) w := enters_of Try.func50 (by kernel_rfl) rfl
theorem hasLackP_any (L : List Prt) (u : Value) (l : List Pce) (v : Value) (w : World) (hL : L.length ≤ 1000) (hd : ∀ p ∈ L, p.data.size ≤ 5000) (hl : l.length ≤ 1000) (hu : Prts w w.heap.size u L) (ht : Pces w w.heap.size v l) :
    Calls Try.prog 48 #[v, .func (.func 49) #[u] #[]] w fun e w' => e = .returned (.bool (l.any (lackB L))) ∧ Q w w' := by
  obtain ⟨A, c, rfl⟩ := hu.form
  exact containsC_any _ A _ c (lackB L) l v w eg_lackP (fun x b q => lacksP_any L _ x b hL hd (hu.on q)) hl ht
theorem hasLackO_any (L : List Prt) (u : Value) (l : List Pce) (v : Value) (w : World) (hL : L.length ≤ 1000) (hd : ∀ p ∈ L, p.data.size ≤ 5000) (hl : l.length ≤ 1000) (hu : Prts w w.heap.size u L) (ht : Pces w w.heap.size v l) :
    Calls Try.prog 48 #[v, .func (.func 50) #[u] #[]] w fun e w' => e = .returned (.bool (l.any (lackO L))) ∧ Q w w' := by
  obtain ⟨A, c, rfl⟩ := hu.form
  exact containsC_any _ A _ c (lackO L) l v w eg_lackO (fun x b q => lacksO_any L _ x b hL hd (hu.on q)) hl ht
end Go.Proofs.Ytlahccmlnbdekaa
