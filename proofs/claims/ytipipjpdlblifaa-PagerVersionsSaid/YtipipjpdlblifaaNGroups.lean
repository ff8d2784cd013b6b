/-
  Contracts of Group, the program's and the document's.
-/
import Derived.Test.YtipipjpdlblifaaNRefs
namespace Go.Proofs.Ytipipjpdlblifaa
set_option linter.unusedVariables false
open Go.ChangeShapes Go.WideShapes Go.ChangeAt Go.RowKit

/-- The first place from n on where an octet stands. -/
def idxO (k : ByteArray) (c : UInt8) (n : Nat) : Option Nat := (List.range k.size).find? fun j => decide (n ≤ j) && k.data.toList.getD j 0 == c
theorem getD_at (k : ByteArray) {j : Nat} (h : j < k.size) : k.data.toList.getD j 0 = k[j] := by
  rw [List.getD_eq_getElem?_getD, List.getElem?_eq_getElem (by simpa using h)]; rfl
def noTo (k : ByteArray) (c : UInt8) (n i : Nat) : Prop := ∀ j (h : j < k.size), n ≤ j → j < i → ¬ k[j] = c
theorem idxO_some {k : ByteArray} {c : UInt8} {n i : Nat} (hi : i < k.size) (hn : n ≤ i) (hc : k[i] = c) (h : noTo k c n i) : idxO k c n = some i := by
  unfold idxO
  rw [List.find?_range_eq_some]
  refine ⟨?_, by simpa using hi, ?_⟩
  · rw [getD_at k hi]; simp [hn, hc]
  · intro j hj
    by_cases a : n ≤ j
    · have := h j (by omega) a hj
      rw [getD_at k (by omega)]; simp [this]
    · simp [a]
theorem idxO_none {k : ByteArray} {c : UInt8} {n : Nat} (h : noTo k c n k.size) : idxO k c n = none := by
  unfold idxO
  rw [List.find?_range_eq_none]
  intro j hj
  by_cases a : n ≤ j
  · have := h j (by omega) a hj
    rw [getD_at k (by omega)]; simp [this]
  · simp [a]
theorem idxO_spec {k : ByteArray} {c : UInt8} {n i : Nat} (h : idxO k c n = some i) : ∃ hi : i < k.size, n ≤ i ∧ k[i] = c ∧ noTo k c n i := by
  unfold idxO at h
  rw [List.find?_range_eq_some] at h
  obtain ⟨h1, h2, h3⟩ := h
  have hi : i < k.size := by simpa using h2
  rw [getD_at k hi] at h1
  simp at h1
  refine ⟨hi, h1.1, h1.2, ?_⟩
  intro j hj hn hji e
  have := h3 j hji
  rw [getD_at k hj] at this
  simp [hn, e] at this
theorem noTo_zero (k : ByteArray) (c : UInt8) (n : Nat) : noTo k c n n := by intro j _ a b; omega
theorem noTo_succ {k : ByteArray} {c : UInt8} {n i : Nat} (hi : i < k.size) (h : noTo k c n i) (e : ¬ k[i] = c) : noTo k c n (i + 1) := by
  intro j hj a b
  by_cases q : j = i
  · subst q; exact e
  · exact h j hj a (by omega)

def okG (k p d : ByteArray) : Bool := hasO 1 60 ko k && hasO 0 60 ko p && hasO 0 1 ko d && decide (0 < d.size) && underO k p
/-- A key's group, and whether it has one. -/
def groupO (k p d : ByteArray) : ByteArray × Bool :=
  if okG k p d = true then
    match idxO k (d.data.toList.headD 0) p.size with
    | some i => (k.extract 0 (i + 1), true)
    | none => (ByteArray.empty, false)
  else (ByteArray.empty, false)
theorem groupO_no {k p d : ByteArray} (h : okG k p d = false) : groupO k p d = (ByteArray.empty, false) := by simp [groupO, h]
theorem groupO_some {k p d : ByteArray} {i : Nat} (h : okG k p d = true) (h0 : 0 < d.size) (hi : i < k.size) (hn : p.size ≤ i) (hc : k[i] = d[0]) (hh : noTo k d[0] p.size i) : groupO k p d = (k.extract 0 (i + 1), true) := by
  simp only [groupO, h, if_true]; rw [head_at d h0, idxO_some hi hn hc hh]
theorem groupO_none {k p d : ByteArray} (h : okG k p d = true) (h0 : 0 < d.size) (hh : noTo k d[0] p.size k.size) : groupO k p d = (ByteArray.empty, false) := by
  simp only [groupO, h, if_true]; rw [head_at d h0, idxO_none hh]
theorem ret_grp {a b : ByteArray × Bool} (h : a = b) : Ending.returned (.tuple #[.string a.1, .bool a.2]) = .returned (.tuple #[.string b.1, .bool b.2]) := by rw [h]
theorem ret_grp' {g : ByteArray} {b : Bool} {x : ByteArray × Bool} (h : x = (g, b)) : Ending.returned (.tuple #[.string g, .bool b]) = .returned (.tuple #[.string x.1, .bool x.2]) := by rw [h]
theorem under_size {k p : ByteArray} (h : underO k p = true) : p.size ≤ k.size := by
  unfold underO at h; simp at h; exact h.1
theorem u8_ne {a b : UInt8} (h : ¬ a = b) : ¬ a.toNat = b.toNat := fun e => h (UInt8.toNat_inj.1 e)

set_option maxHeartbeats 1000000 in
theorem group_any (k p d : ByteArray) (w : World) (hk : k.size ≤ 1000) (hp : p.size ≤ 1000) (hd : d.size ≤ 1000) :
    Calls Try.prog 47 #[.string k, .string p, .string d] w fun e w' => e = .returned (.tuple #[.string (groupO k p d).1, .bool (groupO k p d).2]) ∧ Q w w' := by
  have HF := Lib.hid (show okG k p d = (hasO 1 60 ko k && hasO 0 60 ko p && hasO 0 1 ko d && decide (0 < d.size) && underO k p) from rfl)
  cases h1 : hasO 1 60 ko k with
  | false =>
    go_enter Try.func47, Try.ntmps47
    go_wp2_with fail
    refine (key_any _ _ hk).mono ?_
    rintro e w1 ⟨rfl, hq1⟩
    go_wp2
    go_ret2
    exact ⟨ret_grp' (groupO_no (by rw [HF.out]; simp [h1])), hq1⟩
  | true =>
    cases h2 : hasO 0 60 ko p with
    | false =>
      go_enter Try.func47, Try.ntmps47
      go_wp2_with fail
      refine (key_any _ _ hk).mono ?_
      rintro e w1 ⟨rfl, hq1⟩
      go_wp2_with fail
      refine (pref_any _ _ hp).mono ?_
      rintro e w2 ⟨rfl, hq2⟩
      go_wp2
      go_ret2
      exact ⟨ret_grp' (groupO_no (by rw [HF.out]; simp [h2])), hq1.trans hq2⟩
    | true =>
      cases h3 : hasO 0 1 ko d with
      | false =>
        go_enter Try.func47, Try.ntmps47
        go_wp2_with fail
        refine (key_any _ _ hk).mono ?_
        rintro e w1 ⟨rfl, hq1⟩
        go_wp2_with fail
        refine (pref_any _ _ hp).mono ?_
        rintro e w2 ⟨rfl, hq2⟩
        go_wp2_with fail
        refine (delim_any _ _ hd).mono ?_
        rintro e w3 ⟨rfl, hq3⟩
        go_wp2
        go_ret2
        exact ⟨ret_grp' (groupO_no (by rw [HF.out]; simp [h3])), (hq1.trans hq2).trans hq3⟩
      | true =>
        by_cases h4 : d.size = 0
        · have hn := is_nil h4
          go_enter Try.func47, Try.ntmps47
          go_wp2_with fail
          refine (key_any _ _ hk).mono ?_
          rintro e w1 ⟨rfl, hq1⟩
          go_wp2_with fail
          refine (pref_any _ _ hp).mono ?_
          rintro e w2 ⟨rfl, hq2⟩
          go_wp2_with fail
          refine (delim_any _ _ hd).mono ?_
          rintro e w3 ⟨rfl, hq3⟩
          go_wp2
          go_ret2
          exact ⟨ret_grp' (groupO_no (by rw [HF.out]; simp [h4])), (hq1.trans hq2).trans hq3⟩
        · obtain ⟨n1, n2⟩ := ne_nil (s := d) (by omega)
          have h0 : 0 < d.size := by omega
          cases h5 : underO k p with
          | false =>
            go_enter Try.func47, Try.ntmps47
            go_wp2_with fail
            refine (key_any _ _ hk).mono ?_
            rintro e w1 ⟨rfl, hq1⟩
            go_wp2_with fail
            refine (pref_any _ _ hp).mono ?_
            rintro e w2 ⟨rfl, hq2⟩
            go_wp2_with fail
            refine (delim_any _ _ hd).mono ?_
            rintro e w3 ⟨rfl, hq3⟩
            go_wp2_with fail
            refine (under_any _ _ _ hk hp).mono ?_
            rintro e w4 ⟨rfl, rfl⟩
            go_wp2
            go_ret2
            exact ⟨ret_grp' (groupO_no (by rw [HF.out]; simp [h5])), (hq1.trans hq2).trans hq3⟩
          | true =>
            have hg : okG k p d = true := by rw [HF.out]; simp [h1, h2, h3, h5, h0]
            have HG := Lib.hid hg
            have hu := under_size h5
            clear hg
            go_enter Try.func47, Try.ntmps47
            go_wp2_with fail
            refine (key_any _ _ hk).mono ?_
            rintro e w1 ⟨rfl, hq1⟩
            go_wp2_with fail
            refine (pref_any _ _ hp).mono ?_
            rintro e w2 ⟨rfl, hq2⟩
            go_wp2_with fail
            refine (delim_any _ _ hd).mono ?_
            rintro e w3 ⟨rfl, hq3⟩
            go_wp2_with fail
            refine (under_any _ _ _ hk hp).mono ?_
            rintro e w4 ⟨rfl, rfl⟩
            go_wp2_with fail
            have hq0 := (hq1.trans hq2).trans hq3
            clear hq1 hq2 hq3
            go_loopw [8] (fun i wr => ∃ n : Nat, p.size ≤ n ∧ n ≤ k.size ∧ i = .int .i64 n ∧ noTo k d[0] p.size n ∧ Q w wr) (fun i _ => k.size - (intOf i).toNat)
            case atStart => exact ⟨p.size, Nat.le_refl _, hu, rfl, noTo_zero _ _ _, hq0⟩
            case round =>
              obtain ⟨n, hn1, hn2, rfl, hno, hq⟩ := hrel
              by_cases hlt : n < k.size
              · by_cases he : k[n] = d[0]
                · have hfin := groupO_some HG.out h0 hlt hn1 he hno
                  have HFIN := Lib.hid hfin
                  have t : (k[n].toNat == d[0].toNat) = true := by rw [he]; simp
                  clear hfin he
                  go_wp2_with fail
                  go_quiet (fail)
                  go_wp2
                  go_ret2
                  exact ⟨ret_grp' HFIN.out, hq.drewN _⟩
                · have hno' := noTo_succ hlt hno he
                  have t : (k[n].toNat == d[0].toNat) = false := by simpa using u8_ne he
                  clear he
                  go_wp2_with fail
                  go_quiet (fail)
                  go_wp2
                  go_roundw
                  case rel => exact ⟨n + 1, by omega, by omega, by go_num, hno', hq.drewN _⟩
                  case measure => simp [intOf]; omega
              · obtain rfl : n = k.size := by omega
                have hfin := groupO_none HG.out h0 hno
                have HFIN := Lib.hid hfin
                clear hfin
                go_wp2
                go_ret2
                exact ⟨ret_grp' HFIN.out, hq⟩
set_option maxHeartbeats 1000000 in
theorem rgroup_any (k p d : ByteArray) (w : World) (hk : k.size ≤ 1000) (hp : p.size ≤ 1000) (hd : d.size ≤ 1000) :
    Calls Try.prog 35 #[.string k, .string p, .string d] w fun e w' => e = .returned (.tuple #[.string (groupO k p d).1, .bool (groupO k p d).2]) ∧ Q w w' := by
  have HF := Lib.hid (show okG k p d = (hasO 1 60 ko k && hasO 0 60 ko p && hasO 0 1 ko d && decide (0 < d.size) && underO k p) from rfl)
  cases h1 : hasO 1 60 ko k with
  | false =>
    go_enter Try.func35, Try.ntmps35
    go_wp2_with fail
    refine (rkey_any _ _ hk).mono ?_
    rintro e w1 ⟨rfl, rfl⟩
    go_wp2
    go_ret2
    exact ⟨ret_grp' (groupO_no (by rw [HF.out]; simp [h1])), Q.refl _⟩
  | true =>
    cases h2 : hasO 0 60 ko p with
    | false =>
      go_enter Try.func35, Try.ntmps35
      go_wp2_with fail
      refine (rkey_any _ _ hk).mono ?_
      rintro e w1 ⟨rfl, rfl⟩
      go_wp2_with fail
      refine (rpref_any _ _ hp).mono ?_
      rintro e w2 ⟨rfl, rfl⟩
      go_wp2
      go_ret2
      exact ⟨ret_grp' (groupO_no (by rw [HF.out]; simp [h2])), Q.refl _⟩
    | true =>
      cases h3 : hasO 0 1 ko d with
      | false =>
        go_enter Try.func35, Try.ntmps35
        go_wp2_with fail
        refine (rkey_any _ _ hk).mono ?_
        rintro e w1 ⟨rfl, rfl⟩
        go_wp2_with fail
        refine (rpref_any _ _ hp).mono ?_
        rintro e w2 ⟨rfl, rfl⟩
        go_wp2_with fail
        refine (rdelim_any _ _ hd).mono ?_
        rintro e w3 ⟨rfl, rfl⟩
        go_wp2
        go_ret2
        exact ⟨ret_grp' (groupO_no (by rw [HF.out]; simp [h3])), Q.refl _⟩
      | true =>
        by_cases h4 : d.size = 0
        · have hn := is_nil h4
          go_enter Try.func35, Try.ntmps35
          go_wp2_with fail
          refine (rkey_any _ _ hk).mono ?_
          rintro e w1 ⟨rfl, rfl⟩
          go_wp2_with fail
          refine (rpref_any _ _ hp).mono ?_
          rintro e w2 ⟨rfl, rfl⟩
          go_wp2_with fail
          refine (rdelim_any _ _ hd).mono ?_
          rintro e w3 ⟨rfl, rfl⟩
          go_wp2
          go_ret2
          exact ⟨ret_grp' (groupO_no (by rw [HF.out]; simp [h4])), Q.refl _⟩
        · obtain ⟨n1, n2⟩ := ne_nil (s := d) (by omega)
          have h0 : 0 < d.size := by omega
          cases h5 : underO k p with
          | false =>
            go_enter Try.func35, Try.ntmps35
            go_wp2_with fail
            refine (rkey_any _ _ hk).mono ?_
            rintro e w1 ⟨rfl, rfl⟩
            go_wp2_with fail
            refine (rpref_any _ _ hp).mono ?_
            rintro e w2 ⟨rfl, rfl⟩
            go_wp2_with fail
            refine (rdelim_any _ _ hd).mono ?_
            rintro e w3 ⟨rfl, rfl⟩
            go_wp2_with fail
            refine (runder_any _ _ _ hk hp).mono ?_
            rintro e w4 ⟨rfl, rfl⟩
            go_wp2
            go_ret2
            exact ⟨ret_grp' (groupO_no (by rw [HF.out]; simp [h5])), Q.refl _⟩
          | true =>
            have hg : okG k p d = true := by rw [HF.out]; simp [h1, h2, h3, h5, h0]
            have HG := Lib.hid hg
            have hu := under_size h5
            clear hg
            go_enter Try.func35, Try.ntmps35
            go_wp2_with fail
            refine (rkey_any _ _ hk).mono ?_
            rintro e w1 ⟨rfl, rfl⟩
            go_wp2_with fail
            refine (rpref_any _ _ hp).mono ?_
            rintro e w2 ⟨rfl, rfl⟩
            go_wp2_with fail
            refine (rdelim_any _ _ hd).mono ?_
            rintro e w3 ⟨rfl, rfl⟩
            go_wp2_with fail
            refine (runder_any _ _ _ hk hp).mono ?_
            rintro e w4 ⟨rfl, rfl⟩
            go_wp2_with fail
            have hq0 := Q.refl w
            go_loopw [8] (fun i wr => ∃ n : Nat, p.size ≤ n ∧ n ≤ k.size ∧ i = .int .i64 n ∧ noTo k d[0] p.size n ∧ Q w wr) (fun i _ => k.size - (intOf i).toNat)
            case atStart => exact ⟨p.size, Nat.le_refl _, hu, rfl, noTo_zero _ _ _, hq0⟩
            case round =>
              obtain ⟨n, hn1, hn2, rfl, hno, hq⟩ := hrel
              by_cases hlt : n < k.size
              · by_cases he : k[n] = d[0]
                · have hfin := groupO_some HG.out h0 hlt hn1 he hno
                  have HFIN := Lib.hid hfin
                  have t : (k[n].toNat == d[0].toNat) = true := by rw [he]; simp
                  clear hfin he
                  go_wp2_with fail
                  go_quiet (fail)
                  go_wp2
                  go_ret2
                  exact ⟨ret_grp' HFIN.out, hq.drewN _⟩
                · have hno' := noTo_succ hlt hno he
                  have t : (k[n].toNat == d[0].toNat) = false := by simpa using u8_ne he
                  clear he
                  go_wp2_with fail
                  go_quiet (fail)
                  go_wp2
                  go_roundw
                  case rel => exact ⟨n + 1, by omega, by omega, by go_num, hno', hq.drewN _⟩
                  case measure => simp [intOf]; omega
              · obtain rfl : n = k.size := by omega
                have hfin := groupO_none HG.out h0 hno
                have HFIN := Lib.hid hfin
                clear hfin
                go_wp2
                go_ret2
                exact ⟨ret_grp' HFIN.out, hq⟩
end Go.Proofs.Ytipipjpdlblifaa
