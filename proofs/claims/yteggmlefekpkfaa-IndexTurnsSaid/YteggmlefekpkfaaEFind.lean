/-
  Contracts of place, both Get, and slices.Clone of versions.
-/
import Derived.Test.YteggmlefekpkfaaERead
import Derived.Shelf.Abstract
namespace Go.Proofs.Yteggmlefekpkfaa
open Go.ChangeShapes Go.WideShapes Go.ChangeAt Go.RowKit
set_option linter.unusedVariables false
set_option linter.unusedSimpArgs false

/-- The place of the first of which p tells yes; below 0, if there is none. -/
def idxL {α : Type} (p : α → Bool) (l : List α) : Int := match l.findIdx? p with
  | some i => (i : Nat)
  | none => -1
theorem idxL_hit {α : Type} {p : α → Bool} {l : List α} {i : Nat} (hl : i < l.length) (h : p l[i] = true) (k : ∀ j (hj : j < i) (hl : j < l.length), p l[j] = false) : idxL p l = i := by
  have : l.findIdx? p = some i := by
    rw [List.findIdx?_eq_some_iff_getElem]
    exact ⟨hl, h, fun j hj => by rw [k j hj (by omega)]; simp⟩
  rw [idxL, this]
theorem idxL_none {α : Type} {p : α → Bool} {l : List α} (k : ∀ j (hl : j < l.length), p l[j] = false) : idxL p l = -1 := by
  have : l.findIdx? p = none := by
    rw [List.findIdx?_eq_none_iff]
    intro x hx
    obtain ⟨j, hj, rfl⟩ := List.getElem_of_mem hx
    exact k j hj
  rw [idxL, this]
/-- Where a key is: nowhere, or at its first entry. -/
def hasK' (key : ByteArray) : Ent → Bool := fun e => decide (e.key = key)
theorem where_key (l : List Ent) (key : ByteArray) : (idxL (hasK' key) l = -1 ∧ ∀ j (hl : j < l.length), l[j].key ≠ key) ∨
    ∃ i, ∃ h : i < l.length, idxL (hasK' key) l = i ∧ l[i].key = key ∧ ∀ j (hj : j < i) (hl : j < l.length), l[j].key ≠ key := by
  cases h : l.findIdx? (hasK' key) with
  | some i =>
    right
    obtain ⟨hi, hp, hk⟩ := List.findIdx?_eq_some_iff_getElem.1 h
    refine ⟨i, hi, by rw [idxL, h], by simpa [hasK'] using hp, fun j hj hl => ?_⟩
    have := hk j hj
    simpa [hasK'] using this
  | none =>
    left
    refine ⟨by rw [idxL, h], fun j hl => ?_⟩
    have := List.findIdx?_eq_none_iff.1 h _ (List.getElem_mem hl)
    simpa [hasK'] using this
/-- A key's versions. -/
def getE (l : List Ent) (key : ByteArray) : List Ver := match l.find? (hasK' key) with
  | some e => e.L
  | none => []
theorem getE_at {l : List Ent} {key : ByteArray} {i : Nat} (hi : i < l.length) (k : l[i].key = key) (h : ∀ j (hj : j < i) (hl : j < l.length), l[j].key ≠ key) : getE l key = l[i].L := by
  have : l.find? (hasK' key) = some l[i] := by
    rw [List.find?_eq_some_iff_getElem]
    exact ⟨by simp [hasK', k], i, hi, rfl, fun j hj => by simpa [hasK'] using h j hj (by omega)⟩
  rw [getE, this]
theorem getE_none {l : List Ent} {key : ByteArray} (h : ∀ j (hl : j < l.length), l[j].key ≠ key) : getE l key = [] := by
  have : l.find? (hasK' key) = none := by
    rw [List.find?_eq_none]
    intro x hx
    obtain ⟨j, hj, rfl⟩ := List.getElem_of_mem hx
    simpa [hasK'] using h j hj
  rw [getE, this]
theorem key_ne {a b : ByteArray} (h : a ≠ b) : (a.toList == b.toList) = false := by rw [eq_texts]; simpa using h
theorem key_eq (a : ByteArray) : (a.toList == a.toList) = true := by simp

/-- The closure that tells whether an entry is a key's. -/
theorem isKey_any (k key : ByteArray) (u : Value) (hu : ∃ A n c, u = .slice A n c) (B : Nat) (w : World) (hc : w.cell? ⟨B, 0, none⟩ = some (.string key)) (hB : B < w.heap.size) :
    Calls Try.prog 44 #[.agg #[.string k, u], .pointer (some ⟨B, 0, none⟩)] w fun e w' => e = .returned (.bool (decide (k = key))) ∧ Q w w' := by
  have HQ := Lib.hid (fun o => (Q.refl w).alloc o)
  have hne : B ≠ w.heap.size := by omega
  obtain ⟨A, n, c, rfl⟩ := hu
  by_cases h : k = key
  · subst h
    have h1 := key_eq k
    go_enter Try.func44, Try.ntmps44
    go_wp2
    go_ret
    exact ⟨ret_bool (by simp), HQ.out _⟩
  · have h1 := key_ne h
    have h2 : ¬ k.toList = key.toList := by simpa using h1
    have HV : Hid (decide (k = key) = false) := Lib.hid (by simp [h])
    clear h
    go_enter Try.func44, Try.ntmps44
    go_wp2
    go_ret
    exact ⟨ret_bool (by rw [HV.out]), HQ.out _⟩
theorem eg_key : ∀ args w, (callFunc 44 args).run Try.prog w = .ok (.enter 44 args) w := enters_of Try.func44 (by kernel_rfl) rfl
set_option maxHeartbeats 2000000 in
theorem indexFuncE_any (g B : Nat) (p : ByteArray → Bool) (l : List Ent) (v : Value) (w : World) (eg : ∀ args w, (callFunc g args).run Try.prog w = .ok (.enter g args) w)
    (hp : ∀ k A n c b, Q w b → Calls Try.prog g #[.agg #[.string k, .slice A n c], .pointer (some ⟨B, 0, none⟩)] b fun e w' => e = .returned (.bool (p k)) ∧ Q b w')
    (hl : l.length ≤ 1000) (ht : Ents w w.heap.size v l) :
    Calls Try.prog 43 #[v, .func (.func g) #[] #[.pointer (some ⟨B, 0, none⟩)]] w fun e w' => e = .returned (.int .i64 (idxL (fun e => p e.key) l)) ∧ Q w w' := by
  have HT := Lib.hid ht
  have HP := Lib.hid hp
  obtain ⟨A, c, rfl⟩ := ht.form
  clear ht hp
  go_enter Try.func43, Try.ntmps43
  go_wp2_with fail
  go_loopw [5, 8] (fun _ I wr => ∃ i : Nat, i ≤ l.length ∧ I = .int .i64 i ∧ Q w wr ∧ Hid (∀ j (hj : j < i) (hl : j < l.length), p l[j].key = false)) (fun _ I _ => l.length - (intOf I).toNat)
  case atStart => exact ⟨0, Nat.zero_le _, rfl, Q.refl _, Lib.hid (fun j h => by omega)⟩
  case round =>
    obtain ⟨i, hil, rfl, q, HK⟩ := hrel
    by_cases hlt : i < l.length
    · obtain ⟨a, c', hv, ha, A2, c2, hvs, hat⟩ := HT.out.pick i hlt
      injection hv with e1 e2 e3
      subst e1 e3
      obtain ⟨d0, d1⟩ := hat _ q
      cases hpx : p l[i].key with
      | true =>
        have HV := Lib.hid (idxL_hit (p := fun e : Ent => p e.key) hlt hpx HK.out)
        have C := HP.out l[i].key A2 l[i].L.length c2 wr q
        rw [hpx] at C
        obtain ⟨x, hx⟩ : ∃ x, x = l[i].key := ⟨_, rfl⟩
        obtain ⟨L, hLe⟩ : ∃ L, L = l[i].L := ⟨_, rfl⟩
        rw [← hx] at d0 C hpx
        rw [← hLe] at d1 C
        have C := Lib.hid C
        clear hx hLe hpx hat hvs
        go_wp2_with (go_at_fn g; refine (C.out).mono ?_; rintro e w1 ⟨rfl, q1⟩)
        go_ret
        exact ⟨by rw [HV.out]; rfl, q.trans q1⟩
      | false =>
        have HK2 : Hid (∀ j (hj : j < i + 1) (hl : j < l.length), p l[j].key = false) := Lib.hid (fun j hj hl => by
          by_cases e : j = i
          · subst e; exact hpx
          · exact HK.out j (by omega) hl)
        have C := HP.out l[i].key A2 l[i].L.length c2 wr q
        rw [hpx] at C
        obtain ⟨x, hx⟩ : ∃ x, x = l[i].key := ⟨_, rfl⟩
        obtain ⟨L, hLe⟩ : ∃ L, L = l[i].L := ⟨_, rfl⟩
        rw [← hx] at d0 C hpx
        rw [← hLe] at d1 C
        have C := Lib.hid C
        clear hx hLe hpx hat hvs
        go_wp2_with (go_at_fn g; refine (C.out).mono ?_; rintro e w1 ⟨rfl, q1⟩)
        go_roundw
        case rel => exact ⟨i + 1, by omega, by go_num, q.trans q1, HK2⟩
        case measure => simp [intOf]; omega
    · have HV := Lib.hid (idxL_none (p := fun e : Ent => p e.key) (l := l) (fun j hl => HK.out j (by omega) hl))
      go_wp2
      go_ret
      exact ⟨by rw [HV.out]; rfl, q⟩
theorem placeE_any (l : List Ent) (v : Value) (key : ByteArray) (w : World) (hl : l.length ≤ 1000) (ht : Ents w w.heap.size v l) :
    Calls Try.prog 30 #[v, .string key] w fun e w' => e = .returned (.int .i64 (idxL (hasK' key) l)) ∧ Q w w' := by
  have q0 : Q w (w.alloc (.cells #[.string key] 9)) := (Q.refl w).alloc _
  have C := Lib.hid (indexFuncE_any 44 w.heap.size (fun k => decide (k = key)) l v (w.alloc (.cells #[.string key] 9)) eg_key
    (fun k A n c b q => isKey_any k key _ ⟨A, n, c, rfl⟩ w.heap.size b ((Below.cell q (p := ⟨w.heap.size, 0, none⟩) (by simp)).trans (by simp)) (Nat.lt_of_lt_of_le (by simp) (Q.size q))) hl (ht.on q0))
  have hmf : ∀ (fn : Fn) (first cap : Array Value) (w : World), (Instr.makeFunc fn first cap).run Try.prog w = .ok (.func fn first cap) w := fun _ _ _ _ => rfl
  go_enter Try.func30, Try.ntmps30
  go_wp2_with fail
  refine (C.out).mono ?_
  rintro e w1 ⟨rfl, q1⟩
  go_wp2
  go_ret
  exact ⟨rfl, q0.trans q1⟩

set_option maxHeartbeats 1000000 in
/-- What slices.Clone makes of versions: a row of its own. -/
theorem cloneV_any (l : List Ver) (v : Value) (w : World) (hl : l.length ≤ 4000) (ht : Vers w w.heap.size v l) :
    Calls Try.prog 36 #[v] w fun e w' => ∃ v', e = .returned v' ∧ OwnV w.heap.size w' v' l ∧ Q w w' := by
  have HT := Lib.hid ht
  obtain ⟨A, c, rfl⟩ := ht.form
  cases A with
  | none =>
    have hc : c = 0 ∧ l = [] := by
      obtain ⟨A', c', e, e0, ez, -, -⟩ := ht
      injection e with e1 e2 e3
      have := ez e1.symm
      exact ⟨by omega, List.length_eq_zero_iff.1 (by omega)⟩
    obtain ⟨rfl, rfl⟩ := hc
    simp only [List.length_nil]
    have he := fun w => Lib.run_eql_slice_nil (P := Try.prog) w 23 52 none 0 0 0 0 Try.underlying23
    go_enter Try.func36, Try.ntmps36
    go_wp2
    go_ret
    exact ⟨_, rfl, OwnV.nil _ _, Q.refl _⟩
  | some a =>
    have q0 := (Q.refl w).alloc (.cells #[] 52)
    have hown : OwnV w.heap.size (w.alloc (.cells #[] 52)) (.slice (some ⟨w.heap.size, 0, none⟩) 0 0) [] := World.ownsRow_made w #[] 0 (Nat.le_refl _) (by unfold maxLen; omega) (by simp)
    have HO := Lib.hid hown
    have he := fun w => Lib.run_eql_slice_nil (P := Try.prog) w 23 52 (some a) l.length c 0 0 Try.underlying23
    clear ht hown
    go_enter Try.func36, Try.ntmps36
    go_wp2_with (at_builtin; refine wpList_append_vers _ rfl _ _ 23 Try.underlying23 rfl w.heap.size _ _ [] l rfl rfl HO.out (HT.out.below q0) ?hb ?ha ?_; (case hb => simp); (case ha => (try simp); omega); intro v2 w2 o2 g2; have b2 := ownV_grown q0 (by simp) HO.out g2; clear g2)
    go_ret
    exact ⟨_, rfl, by simpa using o2, b2⟩
set_option maxHeartbeats 1000000 in
theorem getE_any (l : List Ent) (key : ByteArray) (v : Value) (w : World) (hs : Small l) (ht : Ents w w.heap.size v l) :
    Calls Try.prog 22 #[v, .string key] w fun e w' => ∃ v', e = .returned v' ∧ OwnV w.heap.size w' v' (getE l key) ∧ Q w w' := by
  have HT := Lib.hid ht
  have hl := hs.1
  have C := Lib.hid (placeE_any l v key w hl ht)
  obtain ⟨A, c, rfl⟩ := ht.form
  rcases where_key l key with ⟨e, hk⟩ | ⟨i, hlt, e, hk, hkj⟩
  · have HV := Lib.hid (getE_none hk)
    rw [e] at C
    clear ht hs e hk
    go_enter Try.func22, Try.ntmps22
    go_wp2_with fail
    refine (C.out).mono ?_
    rintro e w1 ⟨rfl, q1⟩
    go_wp2
    go_ret
    exact ⟨_, rfl, by rw [HV.out]; exact OwnV.nil _ _, q1⟩
  · have HV := Lib.hid (getE_at hlt hk hkj)
    rw [e] at C
    have hm := (hs.2 _ (List.getElem_mem hlt)).2.1
    obtain ⟨a, c', hv, ha, A2, c2, hvs, hat⟩ := HT.out.pick i hlt
    injection hv with e1 e2 e3
    subst e1 e3
    obtain ⟨L, hLe⟩ : ∃ L, L = l[i].L := ⟨_, rfl⟩
    rw [← hLe] at hvs hat HV hm
    have HA := Lib.hid hat
    have CL : Hid (∀ d, Q w d → Calls Try.prog 36 #[.slice A2 L.length c2] d fun e w' => ∃ v', e = .returned v' ∧ OwnV d.heap.size w' v' L ∧ Q d w') := Lib.hid (fun d q => cloneV_any L _ d (by omega) (hvs.on q))
    have hilt : (i : Int) < (l.length : Int) := by omega
    have hi0 : ¬ (i : Int) < 0 := by omega
    clear ht hs e hk hkj hLe hvs hat hm
    go_enter Try.func22, Try.ntmps22
    go_wp2_with fail
    refine (C.out).mono ?_
    rintro e w1 ⟨rfl, q1⟩
    obtain ⟨d0, d1⟩ := HA.out _ q1
    go_wp2_with fail
    refine (CL.out _ q1).mono ?_
    rintro e w2 ⟨v', rfl, o2, q2⟩
    go_wp2
    go_ret
    exact ⟨_, rfl, by rw [HV.out]; exact OwnV.low o2 q1.size, q1.trans q2⟩
set_option maxHeartbeats 1000000 in
theorem rgetE_any (l : List Ent) (key : ByteArray) (v : Value) (w : World) (hs : Small l) (ht : Ents w w.heap.size v l) :
    Calls Try.prog 23 #[v, .string key] w fun e w' => ∃ v', e = .returned v' ∧ Vers w' w'.heap.size v' (getE l key) ∧ Q w w' := by
  have HT := Lib.hid ht
  have hl := hs.1
  obtain ⟨A, c, rfl⟩ := ht.form
  clear ht hs
  go_enter Try.func23, Try.ntmps23
  go_wp2_with fail
  go_loopw [5] (fun I wr => ∃ i : Nat, i ≤ l.length ∧ I = .int .i64 i ∧ Q w wr ∧ Hid (∀ j (hj : j < i) (hl : j < l.length), l[j].key ≠ key)) (fun I _ => l.length - (intOf I).toNat)
  case atStart => exact ⟨0, Nat.zero_le _, rfl, Q.refl _, Lib.hid (fun j h => by omega)⟩
  case round =>
    obtain ⟨i, hil, rfl, q, HK⟩ := hrel
    by_cases hlt : i < l.length
    · obtain ⟨a, c', hv, ha, A2, c2, hvs, hat⟩ := HT.out.pick i hlt
      injection hv with e1 e2 e3
      subst e1 e3
      obtain ⟨d0, d1⟩ := hat _ q
      by_cases hk : l[i].key = key
      · have HV := Lib.hid (getE_at hlt hk HK.out)
        rw [hk] at d0
        have h1 := key_eq key
        obtain ⟨L, hLe⟩ : ∃ L, L = l[i].L := ⟨_, rfl⟩
        rw [← hLe] at hvs d1 HV
        have HS := Lib.hid (hvs.on q)
        clear hk hat hLe hvs
        go_wp2
        go_ret
        exact ⟨_, rfl, by rw [HV.out]; exact HS.out, q⟩
      · have h1 := key_ne hk
        have h2 : ¬ l[i].key.toList = key.toList := by simpa using h1
        have HK2 : Hid (∀ j (hj : j < i + 1) (hl : j < l.length), l[j].key ≠ key) := Lib.hid (fun j hj hl => by
          by_cases e : j = i
          · subst e; exact hk
          · exact HK.out j (by omega) hl)
        obtain ⟨x, hx⟩ : ∃ x, x = l[i].key := ⟨_, rfl⟩
        rw [← hx] at d0 h1 h2
        clear hk hat hx d1 hvs
        go_wp2
        go_roundw
        case rel => exact ⟨i + 1, by omega, by go_num, q, HK2⟩
        case measure => simp [intOf]; omega
    · have HV := Lib.hid (getE_none (l := l) (key := key) (fun j hl => HK.out j (by omega) hl))
      go_wp2
      go_ret
      exact ⟨_, rfl, by rw [HV.out]; exact Vers.nil _ _, q⟩
end Go.Proofs.Yteggmlefekpkfaa
