/-
  Contracts of slices.IndexFunc, slices.ContainsFunc and place.
-/
import Derived.Test.YtflfhigldkdlmaaPMay
import Derived.Shelf.Abstract
namespace Go.Proofs.Ytflfhigldkdlmaa
open Go.ChangeShapes Go.WideShapes Go.ChangeAt Go.RowKit
set_option linter.unusedVariables false

/-- The place of the first version of which p tells yes; below 0, if there is none. -/
def idxV (p : Ver → Bool) (l : List Ver) : Int := match l.findIdx? p with
  | some i => (i : Nat)
  | none => -1
theorem idxV_hit {p : Ver → Bool} {l : List Ver} {i : Nat} (hl : i < l.length) (h : p l[i] = true) (k : ∀ j (hj : j < i) (hl : j < l.length), p l[j] = false) : idxV p l = i := by
  have : l.findIdx? p = some i := by
    rw [List.findIdx?_eq_some_iff_getElem]
    exact ⟨hl, h, fun j hj => by rw [k j hj (by omega)]; simp⟩
  rw [idxV, this]
theorem idxV_none {p : Ver → Bool} {l : List Ver} (k : ∀ j (hl : j < l.length), p l[j] = false) : idxV p l = -1 := by
  have : l.findIdx? p = none := by
    rw [List.findIdx?_eq_none_iff]
    intro x hx
    obtain ⟨j, hj, rfl⟩ := List.getElem_of_mem hx
    exact k j hj
  rw [idxV, this]
set_option maxHeartbeats 2000000 in
theorem indexFunc_any (g B : Nat) (p : Ver → Bool) (l : List Ver) (v : Value) (w : World) (eg : ∀ args w, (callFunc g args).run Try.prog w = .ok (.enter g args) w)
    (hp : ∀ x b, Q w b → Calls Try.prog g #[ver x, .pointer (some ⟨B, 0, none⟩)] b fun e w' => e = .returned (.bool (p x)) ∧ Q b w')
    (hl : l.length ≤ 1000) (ht : Vers w w.heap.size v l) :
    Calls Try.prog 38 #[v, .func (.func g) #[] #[.pointer (some ⟨B, 0, none⟩)]] w fun e w' => e = .returned (.int .i64 (idxV p l)) ∧ Q w w' := by
  obtain ⟨A, c, rfl, -, -, -, hcells⟩ := ht
  have HC := Lib.hid hcells
  have HP := Lib.hid hp
  clear hcells hp
  go_enter Try.func38, Try.ntmps38
  go_wp2_with fail
  go_loopw [5, 8] (fun _ I wr => ∃ i : Nat, i ≤ l.length ∧ I = .int .i64 i ∧ Q w wr ∧ Hid (∀ j (hj : j < i) (hl : j < l.length), p l[j] = false)) (fun _ I _ => l.length - (intOf I).toNat)
  case atStart => exact ⟨0, Nat.zero_le _, rfl, Q.refl _, Lib.hid (fun j h => by omega)⟩
  case round =>
    obtain ⟨i, hil, rfl, q, HK⟩ := hrel
    by_cases hlt : i < l.length
    · obtain ⟨a, rfl, ha, hat⟩ := HC.out i hlt
      obtain ⟨c0, c1, c2, c3⟩ := hat.keep (by rw [add_block]; exact ha) fun _ hp => q.cell hp
      clear hat
      cases hpx : p l[i] with
      | true =>
        have HV := Lib.hid (idxV_hit hlt hpx HK.out)
        obtain ⟨x, hx⟩ : ∃ x, x = l[i] := ⟨_, rfl⟩
        rw [← hx] at c0 c1 c2 c3 hpx
        clear hx
        have C := HP.out x wr q
        rw [hpx, ver] at C
        have C := Lib.hid C
        clear hpx
        go_wp2_with (go_at_fn g; refine (C.out).mono ?_; rintro e w1 ⟨rfl, q1⟩)
        go_ret
        exact ⟨by rw [HV.out]; rfl, q.trans q1⟩
      | false =>
        have HK2 : Hid (∀ j (hj : j < i + 1) (hl : j < l.length), p l[j] = false) := Lib.hid (fun j hj hl => by
          by_cases e : j = i
          · subst e; exact hpx
          · exact HK.out j (by omega) hl)
        obtain ⟨x, hx⟩ : ∃ x, x = l[i] := ⟨_, rfl⟩
        rw [← hx] at c0 c1 c2 c3 hpx
        clear hx
        have C := HP.out x wr q
        rw [hpx, ver] at C
        have C := Lib.hid C
        clear hpx
        go_wp2_with (go_at_fn g; refine (C.out).mono ?_; rintro e w1 ⟨rfl, q1⟩)
        go_roundw
        case rel => exact ⟨i + 1, by omega, by go_num, q.trans q1, HK2⟩
        case measure => simp [intOf]; omega
    · have HV := Lib.hid (idxV_none (p := p) (l := l) (fun j hl => HK.out j (by omega) hl))
      go_wp2
      go_ret
      exact ⟨by rw [HV.out]; rfl, q⟩
theorem eg_place : ∀ args w, (callFunc 39 args).run Try.prog w = .ok (.enter 39 args) w := enters_of Try.func39 (by kernel_rfl) rfl
theorem eg_put : ∀ args w, (callFunc 28 args).run Try.prog w = .ok (.enter 28 args) w := enters_of Try.func28 (by kernel_rfl) rfl

theorem idxV_sign (p : Ver → Bool) (l : List Ver) : (0 ≤ idxV p l) ↔ l.any p = true := by
  unfold idxV
  cases h : l.findIdx? p with
  | some i =>
    rw [List.findIdx?_eq_some_iff_getElem] at h
    obtain ⟨hi, hp, -⟩ := h
    refine ⟨fun _ => List.any_eq_true.2 ⟨_, List.getElem_mem hi, hp⟩, fun _ => by simp⟩
  | none =>
    rw [List.findIdx?_eq_none_iff] at h
    refine ⟨fun k => by simp at k, fun k => ?_⟩
    obtain ⟨x, hx, hp⟩ := List.any_eq_true.1 k
    rw [h x hx] at hp; simp at hp
theorem containsFunc_any (g B : Nat) (p : Ver → Bool) (l : List Ver) (v : Value) (w : World) (eg : ∀ args w, (callFunc g args).run Try.prog w = .ok (.enter g args) w)
    (hp : ∀ x b, Q w b → Calls Try.prog g #[ver x, .pointer (some ⟨B, 0, none⟩)] b fun e w' => e = .returned (.bool (p x)) ∧ Q b w')
    (hl : l.length ≤ 1000) (ht : Vers w w.heap.size v l) :
    Calls Try.prog 29 #[v, .func (.func g) #[] #[.pointer (some ⟨B, 0, none⟩)]] w fun e w' => e = .returned (.bool (l.any p)) ∧ Q w w' := by
  have C := Lib.hid (indexFunc_any g B p l v w eg hp hl ht)
  have HS := idxV_sign p l
  clear hp
  cases h : l.any p with
  | true =>
    have k : 0 ≤ idxV p l := HS.2 h
    clear HS
    generalize idxV p l = r at C k
    go_enter Try.func29, Try.ntmps29
    go_wp2_with fail
    refine (C.out).mono ?_
    rintro e w1 ⟨rfl, q1⟩
    go_wp2
    go_ret
    exact ⟨by first | rfl | simp [k], q1⟩
  | false =>
    have k : ¬ 0 ≤ idxV p l := fun e => by rw [HS.1 e] at h; simp at h
    clear HS
    generalize idxV p l = r at C k
    go_enter Try.func29, Try.ntmps29
    go_wp2_with fail
    refine (C.out).mono ?_
    rintro e w1 ⟨rfl, q1⟩
    go_wp2
    go_ret
    exact ⟨by first | rfl | simp [k], q1⟩
theorem place_any (l : List Ver) (v : Value) (id : Nat) (w : World) (hl : l.length ≤ 1000) (ht : Vers w w.heap.size v l) :
    Calls Try.prog 33 #[v, .int .u64 (id : Nat)] w fun e w' => e = .returned (.int .i64 (idxV (fun x => decide (x.id = id)) l)) ∧ Q w w' := by
  have q0 : Q w (w.alloc (.cells #[.int .u64 (id : Nat)] 23)) := (Q.refl w).alloc _
  have C := Lib.hid (indexFunc_any 39 w.heap.size (fun x => decide (x.id = id)) l v (w.alloc (.cells #[.int .u64 (id : Nat)] 23)) eg_place
    (fun x b q => isId_any x id w.heap.size b ((Below.cell q (p := ⟨w.heap.size, 0, none⟩) (by simp)).trans (by simp)) (Nat.lt_of_lt_of_le (by simp) (Q.size q))) hl (ht.on q0))
  have hmf : ∀ (fn : Fn) (first cap : Array Value) (w : World), (Instr.makeFunc fn first cap).run Try.prog w = .ok (.func fn first cap) w := fun _ _ _ _ => rfl
  go_enter Try.func33, Try.ntmps33
  go_wp2_with fail
  refine (C.out).mono ?_
  rintro e w1 ⟨rfl, q1⟩
  go_wp2
  go_ret
  exact ⟨rfl, q0.trans q1⟩
end Go.Proofs.Ytflfhigldkdlmaa
