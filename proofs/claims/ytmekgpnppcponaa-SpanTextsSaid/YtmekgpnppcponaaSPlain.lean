/-
  Plain facts on texts of spans; contracts of parted.
-/
import Derived.Test.YtmekgpnppcponaaSDig
import Derived.Test.YtmekgpnppcponaaSCut
namespace Go.Proofs.Ytmekgpnppcponaa
open Go.ChangeShapes Go.WideShapes Go.ChangeAt Go.RowKit
set_option linter.unusedVariables false

/-- What stands ahead of the first dash, and behind it. -/
def splt : List UInt8 → Option (List UInt8 × List UInt8)
  | [] => none
  | c :: r => if c = 45 then some ([], r) else (splt r).map fun p => (c :: p.1, p.2)
theorem splt_no {l : List UInt8} (h : ∀ c ∈ l, c ≠ 45) : splt l = none := by
  induction l with
  | nil => rfl
  | cons c r ih =>
    rw [splt, if_neg (h c (List.mem_cons_self ..)), ih (fun x hx => h x (List.mem_cons_of_mem _ hx))]; rfl
theorem splt_yes {a b : List UInt8} (h : ∀ c ∈ a, c ≠ 45) : splt (a ++ 45 :: b) = some (a, b) := by
  induction a with
  | nil => rw [List.nil_append, splt, if_pos rfl]
  | cons c r ih =>
    rw [List.cons_append, splt, if_neg (h c (List.mem_cons_self ..)), ih (fun x hx => h x (List.mem_cons_of_mem _ hx))]; rfl
theorem splt_some {l a b : List UInt8} (h : splt l = some (a, b)) : l = a ++ 45 :: b ∧ ∀ c ∈ a, c ≠ 45 := by
  induction l generalizing a with
  | nil => simp [splt] at h
  | cons c r ih =>
    rw [splt] at h
    by_cases hc : c = 45
    · rw [if_pos hc] at h
      simp at h
      obtain ⟨rfl, rfl⟩ := h
      subst hc
      exact ⟨rfl, by simp⟩
    · rw [if_neg hc] at h
      cases hs : splt r with
      | none => rw [hs] at h; simp at h
      | some p =>
        rw [hs] at h
        simp at h
        obtain ⟨rfl, rfl⟩ := h
        obtain ⟨e, f⟩ := ih hs
        refine ⟨by rw [e]; simp [← e], ?_⟩
        intro x hx
        rcases List.mem_cons.1 hx with rfl | hx
        · exact hc
        · exact f x hx

/-- A text's span: a place that is not told is 0. -/
def opt (l : List UInt8) : Option Nat := if l = [] then some 0 else num l
def psd2 (a c : List UInt8) : Option (Nat × Nat × Bool × Bool) :=
  match opt a, opt c with
  | some f, some t => if mayP f t c.isEmpty a.isEmpty then some (f, t, c.isEmpty, a.isEmpty) else none
  | _, _ => none
def psd (l : List UInt8) : Option (Nat × Nat × Bool × Bool) :=
  match splt l with
  | some (a, c) => psd2 a c
  | none => none
/-- A span's text. -/
def txtP (f t : Nat) (o b : Bool) : List UInt8 := (if b then [] else digs f) ++ 45 :: (if o then [] else digs t)
theorem isD_dash {c : UInt8} (h : isD c) : c ≠ 45 := by
  rintro rfl
  unfold isD at h
  have : (45 : UInt8).toNat = 45 := rfl
  omega
theorem splt_txt (f t : Nat) (o b : Bool) : splt (txtP f t o b) = some (if b then [] else digs f, if o then [] else digs t) := by
  apply splt_yes
  intro c hc
  cases b
  · exact isD_dash (digs_isD f c (by simpa using hc))
  · simp at hc
theorem emp_digs (n : Nat) : (digs n).isEmpty = false := by
  cases h : digs n with
  | nil => exact absurd h (digs_ne n)
  | cons a l => rfl
theorem opt_digs {n : Nat} (h : n ≤ 1099511627775) : opt (digs n) = some n := by rw [opt, if_neg (digs_ne n)]; exact num_iff.2 ⟨h, rfl⟩
theorem psd_txt {f t : Nat} {o b : Bool} (h : mayP f t o b = true) : psd (txtP f t o b) = some (f, t, o, b) := by
  rw [psd, splt_txt]
  rcases may_kinds h with ⟨rfl, rfl, h1, h2, h3⟩ | ⟨rfl, rfl, h1, h2, h3⟩ | ⟨rfl, rfl, h1, h2, h3⟩
  · obtain rfl : t = 0 := by omega
    have : psd2 (digs f) [] = some (f, 0, true, false) := by
      rw [psd2, opt_digs (by omega), opt, if_pos rfl, emp_digs]
      exact if_pos h
    exact this
  · obtain rfl : f = 0 := by omega
    have : psd2 [] (digs t) = some (0, t, false, true) := by
      rw [psd2, opt_digs (by omega), opt, if_pos rfl, emp_digs]
      exact if_pos h
    exact this
  · have : psd2 (digs f) (digs t) = some (f, t, false, false) := by
      rw [psd2, opt_digs (by omega), opt_digs (by omega), emp_digs, emp_digs]
      exact if_pos h
    exact this
theorem opt_some {l : List UInt8} {n : Nat} (h : opt l = some n) : n ≤ 1099511627775 ∧ (l = [] ∧ n = 0 ∨ l = digs n) := by
  unfold opt at h
  split at h
  · rename_i e; simp at h; subst h; exact ⟨by omega, .inl ⟨e, rfl⟩⟩
  · have := num_iff.1 h; exact ⟨this.1, .inr this.2⟩
theorem psd_some {l : List UInt8} {f t : Nat} {o b : Bool} (h : psd l = some (f, t, o, b)) : mayP f t o b = true ∧ l = txtP f t o b := by
  unfold psd at h
  split at h
  · rename_i a c hs
    obtain ⟨rfl, ha⟩ := splt_some hs
    unfold psd2 at h
    split at h
    · rename_i x y hx hy
      split at h
      · rename_i hm
        simp at h
        obtain ⟨rfl, rfl, rfl, rfl⟩ := h
        refine ⟨hm, ?_⟩
        obtain ⟨-, h1⟩ := opt_some hx
        obtain ⟨-, h2⟩ := opt_some hy
        rw [txtP]
        congr 1
        · rcases h1 with ⟨rfl, rfl⟩ | rfl
          · rfl
          · rw [emp_digs]; rfl
        · congr 1
          rcases h2 with ⟨rfl, rfl⟩ | rfl
          · rfl
          · rw [emp_digs]; rfl
      · simp at h
    · simp at h
  · simp at h
/-- What the document's number makes of any octets. -/
def rn (l : List UInt8) : Int := (l.take 14).foldl (fun n c => 10 * n + (c.toNat : Int) - 48) 0
theorem rn_fold (l : List UInt8) (hl : ∀ c ∈ l, isD c) (n : Nat) : l.foldl (fun n c => 10 * n + (c.toNat : Int) - 48) (n : Int) = (vd n l : Int) := by
  induction l generalizing n with
  | nil => rfl
  | cons c r ih =>
    have hc := hl c (List.mem_cons_self ..)
    unfold isD at hc
    rw [List.foldl_cons, vd_cons, ← ih (fun x hx => hl x (List.mem_cons_of_mem _ hx))]
    congr 1
    omega
theorem rn_digs {n : Nat} (h : n ≤ 1099511627775) : rn (digs n) = n := by
  rw [rn, List.take_of_length_le (by have := digs_len h; omega)]
  have := rn_fold (digs n) (digs_isD n) 0
  rw [vd_digs] at this
  exact this
theorem rn_nil : rn [] = 0 := rfl
/-- The document's way: what the places seem to be, if the text of that span is the text. -/
theorem psd_back {a c : List UInt8} (ha : ∀ x ∈ a, x ≠ 45) {f t : Nat} {o b : Bool} (h : psd (a ++ 45 :: c) = some (f, t, o, b)) : rn a = f ∧ rn c = t ∧ c.isEmpty = o ∧ a.isEmpty = b := by
  unfold psd at h
  rw [splt_yes ha] at h
  simp only at h
  unfold psd2 at h
  split at h
  · rename_i x y hx hy
    split at h
    · simp at h
      obtain ⟨rfl, rfl, rfl, rfl⟩ := h
      obtain ⟨k1, h1⟩ := opt_some hx
      obtain ⟨k2, h2⟩ := opt_some hy
      refine ⟨?_, ?_, rfl, rfl⟩
      · rcases h1 with ⟨rfl, rfl⟩ | rfl
        · rfl
        · exact rn_digs k1
      · rcases h2 with ⟨rfl, rfl⟩ | rfl
        · rfl
        · exact rn_digs k2
    · simp at h
  · simp at h
theorem dash_split (s : ByteArray) {i : Nat} (hi : i < s.size) (h : s[i].toNat = 45) : bl s = bl (s.extract 0 i) ++ 45 :: bl (s.extract (i + 1) s.size) := by
  have e : s[i] = 45 := UInt8.toNat_inj.1 h
  rw [bl_extract, bl_extract, List.drop_zero, Nat.sub_zero]
  have hd := drop_at s hi
  rw [e] at hd
  conv => lhs; rw [← List.take_append_drop i (bl s), hd]
  congr 2
  rw [List.take_of_length_le]
  rw [List.length_drop, bl_length]; omega
theorem dash_none (s : ByteArray) {i : Nat} (hi : i ≤ s.size) (h : ∀ k (hk : k < i), s[k].toNat ≠ 45) : ∀ c ∈ bl (s.extract 0 i), c ≠ 45 := by
  rw [bl_extract, List.drop_zero, Nat.sub_zero]
  intro c hc
  obtain ⟨k, hk, rfl⟩ := List.mem_iff_getElem.1 hc
  rw [List.length_take] at hk
  rw [List.getElem_take]
  rintro e
  refine h k (by omega) ?_
  rw [show s[k] = (bl s)[k]'(by rw [bl_length]; omega) from rfl, e]; rfl
/-- Either there is no dash, or there is a first one. -/
theorem dash_or (s : ByteArray) : (∀ k (hk : k < s.size), s[k].toNat ≠ 45) ∨ ∃ (i : Nat) (hi : i < s.size), s[i].toNat = 45 ∧ ∀ k (hk : k < i), s[k].toNat ≠ 45 := by
  have : ∀ n, n ≤ s.size → (∀ k (hk : k < n) (h : k < s.size), s[k].toNat ≠ 45) ∨ ∃ (i : Nat) (hi : i < s.size), s[i].toNat = 45 ∧ ∀ k (hk : k < i), s[k].toNat ≠ 45 := by
    intro n
    induction n with
    | zero => intro _; exact .inl (fun k hk => absurd hk (by omega))
    | succ n ih =>
      intro hn
      rcases ih (by omega) with h | h
      · by_cases e : s[n].toNat = 45
        · exact .inr ⟨n, by omega, e, fun k hk => h k hk (by omega)⟩
        · refine .inl fun k hk h' => ?_
          by_cases ek : k = n
          · subst ek; exact e
          · exact h k (by omega) h'
      · exact .inr h
  rcases this s.size (Nat.le_refl _) with h | h
  · exact .inl fun k hk => h k hk hk
  · exact .inr h
theorem psd_none (s : ByteArray) (h : ∀ k (hk : k < s.size), s[k].toNat ≠ 45) : psd (bl s) = none := by
  rw [psd, splt_no]
  have := dash_none s (Nat.le_refl _) h
  rwa [bl_extract, List.drop_zero, Nat.sub_zero, List.take_of_length_le (by rw [bl_length]; exact Nat.le_refl _)] at this
theorem psd_dash (s : ByteArray) {i : Nat} (hi : i < s.size) (h : s[i].toNat = 45) (hn : ∀ k (hk : k < i), s[k].toNat ≠ 45) : psd (bl s) = psd2 (bl (s.extract 0 i)) (bl (s.extract (i + 1) s.size)) := by
  conv => lhs; rw [dash_split s hi h, psd]
  rw [splt_yes (dash_none s (by omega) hn)]

set_option maxHeartbeats 1000000 in
theorem parted_no (s : ByteArray) (w : World) (hs : s.size ≤ 5000) (h : ∀ k (hk : k < s.size), s[k].toNat ≠ 45) :
    Calls Try.prog 22 #[.string s] w fun e w' => e = .returned (.tuple #[.string ⟨#[]⟩, .string ⟨#[]⟩, .bool false]) ∧ w = w' := by
  have H := Lib.hid h
  clear h
  go_enter Try.func22, Try.ntmps22
  go_wp2_with fail
  go_loop [8] (fun i => ∃ j : Nat, j ≤ s.size ∧ i = .int .i64 j) (fun i => s.size - (intOf i).toNat)
  case atStart => exact ⟨0, Nat.zero_le _, rfl⟩
  case round =>
    obtain ⟨j, hj, rfl⟩ := hrel
    by_cases hlt : j < s.size
    · have e1 : ((s[j].toNat : Int) == 45) = false := beq_false_of_ne (by have := H.out j hlt; omega)
      go_wp2
      go_round
      case rel => exact ⟨j + 1, by omega, by go_num⟩
      case measure => simp [intOf]; omega
    · obtain rfl : j = s.size := by omega
      go_wp2
      go_ret3
      exact ⟨rfl, rfl⟩
set_option maxHeartbeats 1000000 in
theorem parted_yes (s : ByteArray) (w : World) (hs : s.size ≤ 5000) {i : Nat} (hi : i < s.size) (h0 : s[i].toNat = 45) (h : ∀ k (hk : k < i), s[k].toNat ≠ 45) :
    Calls Try.prog 22 #[.string s] w fun e w' => e = .returned (.tuple #[.string (s.extract 0 i), .string (s.extract (i + 1) s.size), .bool true]) ∧ Q w w' := by
  have H := Lib.hid h
  have H0 := Lib.hid h0
  clear h h0
  go_enter Try.func22, Try.ntmps22
  go_wp2_with fail
  go_loopw [8] (fun v wr => ∃ j : Nat, j ≤ i ∧ v = .int .i64 j ∧ Q w wr) (fun v _ => s.size - (intOf v).toNat)
  case atStart => exact ⟨0, Nat.zero_le _, rfl, Q.refl _⟩
  case round =>
    obtain ⟨j, hj, rfl, q⟩ := hrel
    have hlt : j < s.size := by omega
    by_cases he : j = i
    · subst he
      have e1 : ((s[j].toNat : Int) == 45) = true := by rw [H0.out]; rfl
      go_wp2
      go_region
      go_wp2
      go_ret3
      exact ⟨rfl, q.drew⟩
    · have hji : j < i := by omega
      have e1 : ((s[j].toNat : Int) == 45) = false := beq_false_of_ne (by have := H.out j hji; omega)
      clear he
      go_wp2
      go_roundw
      case rel => exact ⟨j + 1, by omega, by go_num, q⟩
      case measure => simp [intOf]; omega
end Go.Proofs.Ytmekgpnppcponaa
