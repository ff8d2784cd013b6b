/-
  Contracts of the document's Same, and of the statements' Few, Texts, awake.
-/
import Derived.Test.YtneclkkbgonkcaaWRefs2
namespace Go.Proofs.Ytneclkkbgonkcaa
open Go.ChangeShapes Go.WideShapes Go.ChangeAt Go.RowKit
set_option linter.unusedVariables false

/-- The first k of both are the same. -/
def SameTo (a b : List ByteArray) (k : Nat) : Prop := a.take k = b.take k
theorem same_step {a b : List ByteArray} {k : Nat} (ha : k < a.length) (hb : k < b.length) (h : SameTo a b k) (e : a[k] = b[k]) : SameTo a b (k + 1) := by
  unfold SameTo at h ⊢
  rw [List.take_succ_eq_append_getElem ha, List.take_succ_eq_append_getElem hb, h, e]
theorem same_end {a b : List ByteArray} (h : a.length = b.length) (q : SameTo a b a.length) : decide (a = b) = true := by
  unfold SameTo at q
  rw [List.take_length] at q
  conv at q => rhs; rw [h, List.take_length]
  simp [q]
theorem same_not {a b : List ByteArray} {k : Nat} (ha : k < a.length) (hb : k < b.length) (e : ¬ a[k] = b[k]) : decide (a = b) = false := by
  have : ¬ a = b := by rintro rfl; exact e rfl
  simp [this]

set_option maxHeartbeats 1000000 in
theorem same_any (a b : List ByteArray) (va vb : Value) (w : World) (hl : a.length ≤ 1000000) (hl2 : b.length ≤ 1000000) (ha : Txts w w.heap.size va a) (hb : Txts w w.heap.size vb b) :
    Calls Try.prog 23 #[va, vb] w fun e w' => e = .returned (.bool (decide (a = b))) ∧ Q w w' := by
  obtain ⟨A, c, rfl, hca⟩ := ha
  obtain ⟨B, d, rfl, hcb⟩ := hb
  have HA := Lib.hid hca; have HB := Lib.hid hcb
  clear hca hcb
  by_cases hlen : a.length = b.length
  · have HL := Lib.hid hlen
    obtain ⟨n, hn⟩ : ∃ n, n = a.length := ⟨_, rfl⟩
    have hm : n = b.length := hn.trans hlen
    rw [← hn] at hl
    rw [← hm] at hl2
    rw [← hn, ← hm]
    have HN := Lib.hid hn; have HM := Lib.hid hm
    clear hn hm hlen
    go_enter Try.func23, Try.ntmps23
    go_wp2_with fail
    go_loopw [5] (fun i wr => ∃ k : Nat, k ≤ n ∧ i = .int .i64 k ∧ Hid (SameTo a b k) ∧ Q w wr) (fun i _ => n - (intOf i).toNat)
    case atStart => exact ⟨0, Nat.zero_le _, rfl, Lib.hid (by simp [SameTo]), Q.refl _⟩
    case round =>
      obtain ⟨k, hk, rfl, HS, q⟩ := hrel
      by_cases hlt : k < n
      · have pa : k < a.length := by rw [← HN.out]; exact hlt
        have pb : k < b.length := by rw [← HM.out]; exact hlt
        obtain ⟨x, rfl, hx1, hx2⟩ := HA.out k pa
        obtain ⟨y, rfl, hy1, hy2⟩ := HB.out k pb
        have cx := (Below.cell q (p := x.add k) (by rw [add_block]; exact hx1)).trans hx2
        have cy := (Below.cell q (p := y.add k) (by rw [add_block]; exact hy1)).trans hy2
        clear hx2 hy2
        obtain ⟨s, hs⟩ : ∃ s, s = a[k] := ⟨_, rfl⟩
        obtain ⟨t, ht⟩ : ∃ t, t = b[k] := ⟨_, rfl⟩
        rw [← hs] at cx
        rw [← ht] at cy
        have H1 := Lib.hid hs; have H2 := Lib.hid ht
        clear hs ht
        have he := eq_texts s t
        by_cases hst : s = t
        · have h1 : (s.toList == t.toList) = true := by rw [he]; simpa using hst
          have HE := Lib.hid hst
          clear he hst
          go_wp2_with fail
          go_region
          go_wp2
          go_roundw
          case rel => exact ⟨k + 1, by omega, by go_num, Lib.hid (same_step pa pb HS.out (by rw [← H1.out, ← H2.out]; exact HE.out)), q.drew⟩
          case measure => simp [intOf]; omega
        · have h1 : (s.toList == t.toList) = false := by rw [he]; simpa using hst
          clear he
          have HV := Lib.hid (same_not pa pb (by rw [← H1.out, ← H2.out]; exact hst))
          go_wp2_with fail
          go_region
          go_wp2
          go_ret
          exact ⟨by rw [HV.out]; rfl, q.drew⟩
      · obtain rfl : k = n := by omega
        have HV := Lib.hid (same_end HL.out (by rw [← HN.out]; exact HS.out))
        go_wp2
        go_ret
        exact ⟨by rw [HV.out]; rfl, q⟩
  · have HV : Hid (decide (a = b) = false) := Lib.hid (by
      have : ¬ a = b := by rintro rfl; exact hlen rfl
      simp [this])
    go_enter Try.func23, Try.ntmps23
    go_wp2
    go_ret
    exact ⟨by rw [HV.out]; rfl, Q.refl _⟩

/-- Few. -/
def few (s : ByteArray) : ByteArray := if 300 < s.size ∧ s.size ≤ 4000 then s.extract 0 300 else if 4100 < s.size then s.extract 0 4100 else s
theorem few_size (s : ByteArray) : (few s).size ≤ 4100 := by
  unfold few; split
  · rw [size_cut _ (by omega)]; omega
  · split
    · rw [size_cut _ (by omega)]; omega
    · omega
set_option maxHeartbeats 1000000 in
theorem few_any (s : ByteArray) (w : World) (hs : s.size ≤ maxLen) :
    Calls Try.prog 11 #[.string s] w fun e w' => e = .returned (.string (few s)) ∧ w = w' := by
  unfold maxLen at hs
  by_cases h1 : 300 < s.size
  · by_cases h2 : s.size ≤ 4000
    · have HF : Hid (few s = s.extract 0 300) := Lib.hid (by rw [few, if_pos ⟨h1, h2⟩])
      go_enter Try.func11, Try.ntmps11
      go_wp2
      go_ret
      exact ⟨ret_str HF.out.symm, rfl⟩
    · have hn : ¬ (300 < s.size ∧ s.size ≤ 4000) := by omega
      by_cases h3 : 4100 < s.size
      · have HF : Hid (few s = s.extract 0 4100) := Lib.hid (by rw [few, if_neg hn, if_pos h3])
        clear hn
        go_enter Try.func11, Try.ntmps11
        go_wp2
        go_ret
        exact ⟨ret_str HF.out.symm, rfl⟩
      · have HF : Hid (few s = s) := Lib.hid (by rw [few, if_neg hn, if_neg h3])
        clear hn
        go_enter Try.func11, Try.ntmps11
        go_wp2
        go_ret
        exact ⟨ret_str HF.out.symm, rfl⟩
  · have HF : Hid (few s = s) := Lib.hid (by rw [few, if_neg (by omega), if_neg (by omega)])
    go_enter Try.func11, Try.ntmps11
    go_wp2
    go_ret
    exact ⟨ret_str HF.out.symm, rfl⟩

/-- Texts. -/
def texts (l : List ByteArray) : List ByteArray := (l.take 20).map few
theorem texts_len (l : List ByteArray) : (texts l).length ≤ 20 := by rw [texts, List.length_map, List.length_take]; omega
theorem texts_size (l : List ByteArray) : ∀ s ∈ texts l, s.size ≤ 4100 := by
  intro s hs
  obtain ⟨x, -, rfl⟩ := List.mem_map.1 hs
  exact few_size x
theorem texts_step {l : List ByteArray} {k : Nat} (h : k < l.length) : ((l.take k).map few) ++ [few l[k]] = (l.take (k + 1)).map few := by
  rw [List.take_succ_eq_append_getElem h, List.map_append]; rfl
theorem texts_end {l : List ByteArray} {k : Nat} (hk : k ≤ 20) (h : l.length ≤ k ∨ k = 20) : (l.take k).map few = texts l := by
  rcases h with h | rfl
  · rw [texts, List.take_of_length_le h, List.take_of_length_le (by omega)]
  · rfl
def TextsP (w : World) (l : List ByteArray) (e : Ending) (w' : World) : Prop := ∃ A n c, e = .returned (.slice A n c) ∧ w'.ownsRow w.heap.size 9 1 (.slice A n c) l.length (l.map Value.string) ∧ Q w w'
set_option maxHeartbeats 1000000 in
theorem texts_any (l : List ByteArray) (v : Value) (w : World) (hl : l.length ≤ maxLen) (hs : ∀ s ∈ l, s.size ≤ maxLen) (ht : Txts w w.heap.size v l) :
    Calls Try.prog 10 #[v] w (TextsP w (texts l)) := by
  obtain ⟨i0, hi0, hz0, hz1, hz2⟩ := info_parts info_str
  unfold maxLen at hl
  obtain ⟨A, c, rfl, hcells⟩ := ht
  have HS := Lib.hid hs
  have HC := Lib.hid hcells
  clear hs hcells
  go_enter Try.func10, Try.ntmps10
  go_wp2_with fail
  go_loopw [3, 4] (fun v i wr => ∃ k : Nat, k ≤ l.length ∧ k ≤ 20 ∧ i = .int .i64 k ∧ wr.ownsRow w.heap.size 9 1 v ((l.take k).map few).length (((l.take k).map few).map Value.string) ∧ Below w.heap.size w wr) (fun _ i _ => 20 - (intOf i).toNat)
  case atStart => exact ⟨0, Nat.zero_le _, Nat.zero_le _, rfl, World.ownsRow_nil _ _ _ _, Q.refl _⟩
  case round =>
    obtain ⟨k, hk, hk2, rfl, hown, hbel⟩ := hrel
    have hs2 := hbel.size
    by_cases hlt : k < l.length
    · by_cases hlt2 : k < 20
      · obtain ⟨a, rfl, ha, hcell⟩ := HC.out k hlt
        have hcell' := (hbel.cell (p := a.add k) (by rw [add_block]; exact ha)).trans hcell
        clear hcell
        have hm := HS.out _ (List.getElem_mem hlt)
        have HT := Lib.hid (texts_step hlt)
        obtain ⟨s, hsj⟩ : ∃ s, s = l[k] := ⟨_, rfl⟩
        rw [← hsj] at hcell' hm HT
        clear hsj
        obtain ⟨g, hg⟩ : ∃ g, g = (l.take k).map few := ⟨_, rfl⟩
        have hgl : g.length ≤ 20 := by rw [hg, List.length_map, List.length_take]; omega
        rw [← hg] at hown HT
        clear hg
        go_wp2_with fail
        refine (few_any s _ hm).mono ?_
        rintro e w2 ⟨rfl, rfl⟩
        go_wp2_with (first | (at_builtin; refine wpList_append_own _ rfl _ _ 23 rfl w.heap.size 9 i0 (.string ⟨#[]⟩) 1 16 Try.underlying23 hi0 hz0 hz1 hz2 rfl (by decide) _ g.length (g.map Value.string) rfl (World.ownsRow.alloc hown _) ⟨wr.heap.size, 0, none⟩ 1 1 [.string (few s)] rfl rfl (cell_one _ _ _) (by intro u hu; simp at hu; subst hu; rfl) (by unfold maxLen; omega) (by omega) (by simp; omega) ?_; intro v1 w3 ho hgr _; have R := row_step hbel (Nat.le_refl _) hown ho hgr; clear ho hgr))
        go_roundw
        case rel => exact ⟨k + 1, by omega, by omega, by go_num, by rw [← HT.out]; exact R.1, R.2⟩
        case measure => simp [intOf]; omega
      · obtain rfl : k = 20 := by omega
        have HE := Lib.hid (texts_end (l := l) (k := 20) (by omega) (.inr rfl))
        obtain ⟨A, n, c, rfl⟩ := own_slice hown
        have HO := Lib.hid hown
        clear hown
        go_wp2
        go_ret
        exact ⟨A, n, c, rfl, by rw [← HE.out]; exact HO.out, hbel⟩
    · obtain rfl : k = l.length := by omega
      have HE := Lib.hid (texts_end (l := l) hk2 (.inl (Nat.le_refl _)))
      obtain ⟨A, n, c, rfl⟩ := own_slice hown
      have HO := Lib.hid hown
      clear hown
      go_wp2
      go_ret
      exact ⟨A, n, c, rfl, by rw [← HE.out]; exact HO.out, hbel⟩

theorem ex1 : mk (oct 258 8) = ⟨#[2, 1, 0, 0, 0, 0, 0, 0]⟩ := by kernel_rfl
theorem ex2 : mk (tx ⟨#[97, 98]⟩) = ⟨#[2, 0, 97, 98]⟩ := by kernel_rfl
theorem ex3 : whl ⟨#[0, 0]⟩ = ([], 0) := by kernel_rfl
theorem ex4 : whl ⟨#[0, 0, 0]⟩ = ([], 2) := by kernel_rfl
theorem Txts.len {w : World} {B : Nat} {A : Option Addr} {n c : Nat} {l : List ByteArray} (h : Txts w B (.slice A n c) l) : n = l.length := by
  obtain ⟨A', c', e, -⟩ := h
  injection e

set_option maxHeartbeats 1000000 in
theorem awake_any (w : World) :
    Calls Try.prog 20 #[] w fun e w' => e = .returned (.bool true) ∧ Q w w' := by
  have T1 := Lib.hid fun w => text_any ⟨#[97, 98]⟩ w (by decide)
  rw [if_pos (by decide), ex2] at T1
  have W1 := Lib.hid fun w => whole_any ⟨#[0, 0]⟩ w (by decide)
  rw [ex3] at W1
  have W2 := Lib.hid fun w => whole_any ⟨#[0, 0, 0]⟩ w (by decide)
  rw [ex4] at W2
  have N1 := Lib.hid fun w => num_any 258 w (by decide)
  rw [ex1] at N1
  go_enter Try.func20, Try.ntmps20
  go_wp2_with fail
  refine (T1.out _).mono ?_
  rintro e w1 ⟨rfl, q1⟩
  go_wp2_with fail
  refine (W1.out _).mono ?_
  rintro e w2 ⟨A, n, c, rfl, ht, q2⟩
  obtain rfl := ht.len
  clear ht
  go_wp2_with fail
  refine (W2.out _).mono ?_
  rintro e w3 ⟨A', n', c', rfl, ht', q3⟩
  clear ht'
  go_wp2_with fail
  refine (N1.out _).mono ?_
  rintro e w4 ⟨rfl, q4⟩
  go_wp2
  go_ret
  exact ⟨rfl, ((q1.trans q2).trans q3).trans q4⟩
end Go.Proofs.Ytneclkkbgonkcaa
