/-
  Plain facts on tags: the register, the text, how many.
-/
import Derived.Test.YtlahccmlnbdekaaDigits
namespace Go.Proofs.Ytlahccmlnbdekaa
open Go.ChangeShapes Go.WideShapes Go.ChangeAt Go.RowKit
set_option linter.unusedVariables false

/-- The register: one bit, one octet, octets; a tag; a tag of more octets. -/
def poly : Nat := 2197175160
def t1 (c : Nat) : Nat := if c % 2 = 1 then (c / 2) ^^^ poly else c / 2
def t8 (c : Nat) : Nat := t1 (t1 (t1 (t1 (t1 (t1 (t1 (t1 c)))))))
def stp (c x : Nat) : Nat := t8 (c ^^^ x)
def reg (c : Nat) (l : List UInt8) : Nat := l.foldl (fun c x => stp c x.toNat) c
def more (t : Nat) (l : List UInt8) : Nat := 4294967295 - reg (4294967295 - t) l
def crc (l : List UInt8) : Nat := 4294967295 - reg 4294967295 l
theorem lt_xor {a b : Nat} (ha : a < 4294967296) (hb : b < 4294967296) : a ^^^ b < 4294967296 := Nat.xor_lt_two_pow (n := 32) ha hb
theorem t1_lt {c : Nat} (h : c < 4294967296) : t1 c < 4294967296 := by
  unfold t1
  split
  · exact lt_xor (by omega) (by decide)
  · omega
theorem t8_lt {c : Nat} (h : c < 4294967296) : t8 c < 4294967296 := by
  unfold t8
  exact t1_lt (t1_lt (t1_lt (t1_lt (t1_lt (t1_lt (t1_lt (t1_lt h)))))))
theorem stp_lt {c x : Nat} (h : c < 4294967296) (hx : x < 256) : stp c x < 4294967296 := t8_lt (lt_xor h (by omega))
theorem reg_nil (c : Nat) : reg c [] = c := List.foldl_nil
theorem reg_cons (c : Nat) (x : UInt8) (l : List UInt8) : reg c (x :: l) = reg (stp c x.toNat) l := List.foldl_cons ..
theorem reg_append (c : Nat) (a b : List UInt8) : reg c (a ++ b) = reg (reg c a) b := List.foldl_append
theorem reg_snoc (c : Nat) (a : List UInt8) (x : UInt8) : reg c (a ++ [x]) = stp (reg c a) x.toNat := by rw [reg_append, reg_cons, reg_nil]
theorem reg_lt {c : Nat} (h : c < 4294967296) (l : List UInt8) : reg c l < 4294967296 := by
  induction l generalizing c with
  | nil => rw [reg_nil]; exact h
  | cons x l ih => rw [reg_cons]; exact ih (stp_lt h (UInt8.toNat_lt x))
theorem crc_lt (l : List UInt8) : crc l < 4294967296 := by unfold crc; omega
theorem more_lt (t : Nat) (l : List UInt8) : more t l < 4294967296 := by unfold more; omega
theorem more_zero (l : List UInt8) : more 0 l = crc l := rfl
theorem more_crc (a b : List UInt8) : more (crc a) b = crc (a ++ b) := by
  have := reg_lt (c := 4294967295) (by decide) a
  rw [more, crc, crc, reg_append, show 4294967295 - (4294967295 - reg 4294967295 a) = reg 4294967295 a by omega]
theorem crc_nil : crc [] = 0 := by rw [crc, reg_nil]

theorem mod2_xor (a b : Nat) : (a ^^^ b) % 2 = (a % 2 + b % 2) % 2 := by
  have := Nat.xor_mod_two_pow (a := a) (b := b) (n := 1)
  simp only [Nat.pow_one] at this
  rw [this]
  rcases Nat.mod_two_eq_zero_or_one a with h | h <;> rcases Nat.mod_two_eq_zero_or_one b with k | k <;> rw [h, k] <;> rfl
theorem div2_xor (a b : Nat) : (a ^^^ b) / 2 = (a / 2) ^^^ (b / 2) := by
  have := Nat.shiftRight_xor_distrib (a := a) (b := b) (i := 1)
  simpa [Nat.shiftRight_succ] using this
theorem xx (a b : Nat) : a ^^^ (a ^^^ b) = b := by rw [← Nat.xor_assoc, Nat.xor_self, Nat.zero_xor]
theorem t1_xor (a b : Nat) : t1 (a ^^^ b) = t1 a ^^^ t1 b := by
  have hm := mod2_xor a b
  unfold t1
  rcases Nat.mod_two_eq_zero_or_one a with h | h <;> rcases Nat.mod_two_eq_zero_or_one b with k | k <;> rw [h, k] at hm <;> simp only [h, k, hm, div2_xor]
  · simp
  · simp; rw [Nat.xor_assoc]
  · simp; rw [Nat.xor_assoc, Nat.xor_assoc, Nat.xor_comm (b / 2)]
  · simp
    rw [Nat.xor_assoc, Nat.xor_comm (b / 2) poly, xx]
theorem t8_xor (a b : Nat) : t8 (a ^^^ b) = t8 a ^^^ t8 b := by unfold t8; simp only [t1_xor]
theorem stp_xor (a b x y : Nat) : stp (a ^^^ b) (x ^^^ y) = stp a x ^^^ stp b y := by
  rw [stp, stp, stp, ← t8_xor]
  congr 1
  rw [Nat.xor_assoc, Nat.xor_assoc, ← Nat.xor_assoc b x y, Nat.xor_comm b x, Nat.xor_assoc x b y]
theorem t1_zero {c : Nat} (h : c < 4294967296) (e : t1 c = 0) : c = 0 := by
  unfold t1 at e
  split at e
  · rename_i h1
    have h2 : (c / 2) ^^^ ((c / 2) ^^^ poly) = (c / 2) ^^^ 0 := by rw [e]
    rw [xx, Nat.xor_zero] at h2
    have : poly = 2197175160 := rfl
    omega
  · rename_i h1; omega
theorem t8_zero {c : Nat} (h : c < 4294967296) (e : t8 c = 0) : c = 0 := by
  unfold t8 at e
  have l1 := t1_lt h; have l2 := t1_lt l1; have l3 := t1_lt l2; have l4 := t1_lt l3; have l5 := t1_lt l4; have l6 := t1_lt l5; have l7 := t1_lt l6
  exact t1_zero h (t1_zero l1 (t1_zero l2 (t1_zero l3 (t1_zero l4 (t1_zero l5 (t1_zero l6 (t1_zero l7 e)))))))
theorem xor_eq {a b : Nat} (h : a ^^^ b = 0) : a = b := by
  have := congrArg (a ^^^ ·) h
  simp only [xx, Nat.xor_zero] at this
  exact this.symm
theorem t8_inj {a b : Nat} (ha : a < 4294967296) (hb : b < 4294967296) (e : t8 a = t8 b) : a = b := by
  apply xor_eq
  apply t8_zero (lt_xor ha hb)
  rw [t8_xor, e, Nat.xor_self]
theorem stp_inj {a b x : Nat} (ha : a < 4294967296) (hb : b < 4294967296) (hx : x < 256) (e : stp a x = stp b x) : a = b := by
  have := t8_inj (lt_xor ha (by omega)) (lt_xor hb (by omega)) e
  have h2 := congrArg (· ^^^ x) this
  simp only [Nat.xor_assoc, Nat.xor_self, Nat.xor_zero] at h2
  exact h2
theorem stp_inj2 {a x y : Nat} (ha : a < 4294967296) (hx : x < 256) (hy : y < 256) (e : stp a x = stp a y) : x = y := by
  have := t8_inj (lt_xor ha (by omega)) (lt_xor ha (by omega)) e
  have h2 := congrArg (a ^^^ ·) this
  simp only [xx] at h2
  exact h2
theorem reg_inj {a b : Nat} (ha : a < 4294967296) (hb : b < 4294967296) (l : List UInt8) (e : reg a l = reg b l) : a = b := by
  induction l generalizing a b with
  | nil => rw [reg_nil, reg_nil] at e; exact e
  | cons x l ih =>
    rw [reg_cons, reg_cons] at e
    have hx := UInt8.toNat_lt x
    exact stp_inj ha hb hx (ih (stp_lt ha hx) (stp_lt hb hx) e)
/-- One octet is another one: so is the tag. -/
theorem crc_one (a b : List UInt8) {x y : UInt8} (h : x ≠ y) : crc (a ++ x :: b) ≠ crc (a ++ y :: b) := by
  intro e
  have lx := reg_lt (c := 4294967295) (by decide) (a ++ x :: b)
  have ly := reg_lt (c := 4294967295) (by decide) (a ++ y :: b)
  have e2 : reg 4294967295 (a ++ x :: b) = reg 4294967295 (a ++ y :: b) := by unfold crc at e; omega
  rw [reg_append, reg_append, reg_cons, reg_cons] at e2
  have la := reg_lt (c := 4294967295) (by decide) a
  have hx := UInt8.toNat_lt x
  have hy := UInt8.toNat_lt y
  have e3 := reg_inj (stp_lt la hx) (stp_lt la hy) b e2
  exact h (UInt8.toNat_inj.1 (stp_inj2 la hx hy e3))
/-- Octets by exclusive-or. -/
def xl : List UInt8 → List UInt8 → List UInt8
  | x :: a, y :: b => (x ^^^ y) :: xl a b
  | _, _ => []
theorem reg_xor (c d : Nat) (a b : List UInt8) (h : a.length = b.length) : reg (c ^^^ d) (xl a b) = reg c a ^^^ reg d b := by
  induction a generalizing b c d with
  | nil => obtain rfl := List.length_eq_zero_iff.1 h.symm; simp [xl, reg_nil]
  | cons x a ih =>
    cases b with
    | nil => simp at h
    | cons y b =>
      rw [xl, reg_cons, reg_cons, reg_cons, ← ih _ _ _ (by simpa using h), ← stp_xor, UInt8.toNat_xor]
theorem xl_length (a b : List UInt8) (h : a.length = b.length) : (xl a b).length = a.length := by
  induction a generalizing b with
  | nil => obtain rfl := List.length_eq_zero_iff.1 h.symm; rfl
  | cons x a ih =>
    cases b with
    | nil => simp at h
    | cons y b => simp [xl, ih b (by simpa using h)]
theorem flip {x : Nat} (h : x < 4294967296) : 4294967295 - x = 4294967295 ^^^ x := by
  have h1 : (4294967295 ^^^ x) = 4294967295 - x := by
    apply Nat.eq_of_testBit_eq
    intro i
    have e1 : (4294967295 : Nat) = 2 ^ 32 - 1 := rfl
    rw [e1, Nat.testBit_xor, Nat.testBit_two_pow_sub_one, show 2 ^ 32 - 1 - x = 2 ^ 32 - (x + 1) by omega, Nat.testBit_two_pow_sub_succ h]
    by_cases hi : i < 32
    · simp [hi]
    · have : x.testBit i = false := Nat.testBit_lt_two_pow (Nat.lt_of_lt_of_le h (Nat.pow_le_pow_right (n := 2) (by omega) (by omega : 32 ≤ i)))
      simp [hi, this]
  exact h1.symm
theorem crc_sum (a b c : List UInt8) (h : a.length = b.length) (k : b.length = c.length) : crc (xl (xl a b) c) = crc a ^^^ crc b ^^^ crc c := by
  have e : reg 4294967295 (xl (xl a b) c) = reg 4294967295 a ^^^ reg 4294967295 b ^^^ reg 4294967295 c := by
    have h1 := reg_xor (4294967295 ^^^ 4294967295) 4294967295 (xl a b) c (by rw [xl_length _ _ h]; omega)
    rw [reg_xor _ _ _ _ h] at h1
    rw [← h1]; rfl
  have la := reg_lt (c := 4294967295) (by decide) a
  have lb := reg_lt (c := 4294967295) (by decide) b
  have lc := reg_lt (c := 4294967295) (by decide) c
  have l3 := reg_lt (c := 4294967295) (by decide) (xl (xl a b) c)
  rw [crc, crc, crc, crc, flip l3, flip la, flip lb, flip lc, e]
  generalize reg 4294967295 a = A, reg 4294967295 b = B, reg 4294967295 c = C
  apply Nat.eq_of_testBit_eq
  intro i
  simp only [Nat.testBit_xor]
  cases Nat.testBit 4294967295 i <;> cases A.testBit i <;> cases B.testBit i <;> cases C.testBit i <;> rfl
/-- A digit of base sixteen; k of them. -/
def hx (d : Nat) : UInt8 := if d < 10 then (48 + d).toUInt8 else (87 + d).toUInt8
def hexk : Nat → Nat → List UInt8
  | 0, _ => []
  | k + 1, t => hexk k (t / 16) ++ [hx (t % 16)]
theorem hexk_length (k t : Nat) : (hexk k t).length = k := by
  induction k generalizing t with
  | zero => rfl
  | succ k ih => rw [hexk, List.length_append, ih]; rfl
theorem hx_nat {d : Nat} (h : d < 16) : (hx d).toNat = if d < 10 then 48 + d else 87 + d := by
  have : ∀ d, d < 16 → (hx d).toNat = if d < 10 then 48 + d else 87 + d := by decide
  exact this d h
/-- What the document's Parse reckons of an octet, and of octets. -/
def rv (c : UInt8) : Nat := if 48 ≤ c.toNat ∧ c.toNat ≤ 57 then c.toNat + 4294967296 - 48 else c.toNat + 4294967296 - 87
def rstep (t : Nat) (c : UInt8) : Nat := (16 * t + rv c) % 4294967296
def rawv (l : List UInt8) : Nat := l.foldl rstep 0
theorem rawv_lt (l : List UInt8) : rawv l < 4294967296 := by
  rcases List.eq_nil_or_concat l with rfl | ⟨r, c, rfl⟩
  · decide
  · rw [rawv, List.concat_eq_append, List.foldl_append]; exact Nat.mod_lt _ (by decide)
theorem rv_hx {d : Nat} (h : d < 16) : rv (hx d) = 4294967296 + d := by
  have := hx_nat h
  unfold rv
  split at this
  · rw [if_pos (by omega)]; omega
  · rw [if_neg (by omega)]; omega
theorem rawv_hexk (k t : Nat) (h : t < 16 ^ k) (hk : k ≤ 8) : rawv (hexk k t) = t := by
  induction k generalizing t with
  | zero => simp at h; subst h; rfl
  | succ k ih =>
    have h2 : t / 16 < 16 ^ k := by rw [Nat.pow_succ] at h; omega
    have h3 : 16 ^ (k + 1) ≤ 4294967296 := by
      have : 16 ^ (k + 1) ≤ 16 ^ 8 := Nat.pow_le_pow_right (by omega) hk
      exact this
    rw [rawv, hexk, List.foldl_append, ← rawv, ih _ h2 (by omega)]
    show rstep (t / 16) (hx (t % 16)) = t
    rw [rstep, rv_hx (Nat.mod_lt _ (by omega))]
    omega
theorem hexk_inj {a b : Nat} (ha : a < 4294967296) (hb : b < 4294967296) (e : hexk 8 a = hexk 8 b) : a = b := by
  rw [← rawv_hexk 8 a ha (Nat.le_refl _), e, rawv_hexk 8 b hb (Nat.le_refl _)]
/-- A text's tag. -/
def tagP (l : List UInt8) : Option Nat := if hexk 8 (rawv l) = l then some (rawv l) else none
theorem tagP_iff {l : List UInt8} {t : Nat} : tagP l = some t ↔ t < 4294967296 ∧ l = hexk 8 t := by
  constructor
  · intro h
    unfold tagP at h
    split at h
    · rename_i e
      simp at h; subst h
      exact ⟨rawv_lt l, e.symm⟩
    · simp at h
  · rintro ⟨h, rfl⟩
    rw [tagP, rawv_hexk 8 t h (Nat.le_refl _), if_pos rfl]
theorem tagP_len {l : List UInt8} {t : Nat} (h : tagP l = some t) : l.length = 8 := by rw [(tagP_iff.1 h).2, hexk_length]
theorem tagP_none_len {l : List UInt8} (h : l.length ≠ 8) : tagP l = none := by
  cases e : tagP l with
  | none => rfl
  | some t => exact absurd (tagP_len e) h

/-- How many there are, as a text; a text's number. -/
def cnt (n : Nat) : List UInt8 := 45 :: digs n
def cntP : List UInt8 → Option Nat
  | [] => none
  | c :: r => if c = 45 then (match num r with | some n => if 1 ≤ n ∧ n ≤ 100 then some n else none | none => none) else none
theorem cntP_iff {l : List UInt8} {n : Nat} : cntP l = some n ↔ (1 ≤ n ∧ n ≤ 100) ∧ l = cnt n := by
  constructor
  · intro h
    cases l with
    | nil => simp [cntP] at h
    | cons c r =>
      rw [cntP] at h
      split at h
      · rename_i hc
        split at h
        · rename_i m hm
          split at h
          · rename_i h1
            simp at h; subst h
            exact ⟨h1, by rw [hc, cnt, (num_iff.1 hm).2]⟩
          · simp at h
        · simp at h
      · simp at h
  · rintro ⟨h, rfl⟩
    rw [cnt, cntP, if_pos rfl, num_iff.2 ⟨by omega, rfl⟩]
    exact if_pos h
def readP (l : List UInt8) : Option (Nat × Nat) :=
  match tagP l with
  | some t => some (t, 0)
  | none => match tagP (l.take 8), cntP (l.drop 8) with
    | some t, some n => some (t, n)
    | _, _ => none
theorem readP_iff {l : List UInt8} {t n : Nat} : readP l = some (t, n) ↔ t < 4294967296 ∧ ((n = 0 ∧ l = hexk 8 t) ∨ ((1 ≤ n ∧ n ≤ 100) ∧ l = hexk 8 t ++ cnt n)) := by
  constructor
  · intro h
    unfold readP at h
    split at h
    · rename_i t' ht
      simp at h
      obtain ⟨rfl, rfl⟩ := h
      obtain ⟨h1, h2⟩ := tagP_iff.1 ht
      exact ⟨h1, .inl ⟨rfl, h2⟩⟩
    · split at h
      · rename_i t' n' ht hn
        simp at h
        obtain ⟨rfl, rfl⟩ := h
        obtain ⟨h1, h2⟩ := tagP_iff.1 ht
        obtain ⟨h3, h4⟩ := cntP_iff.1 hn
        exact ⟨h1, .inr ⟨h3, by rw [← h2, ← h4, List.take_append_drop]⟩⟩
      · simp at h
  · rintro ⟨h, ⟨rfl, rfl⟩ | ⟨hn, rfl⟩⟩
    · rw [readP, tagP_iff.2 ⟨h, rfl⟩]
    · rw [readP, tagP_none_len (by rw [List.length_append, hexk_length, cnt]; simp)]
      rw [List.take_append_of_le_length (by rw [hexk_length]; omega), List.take_of_length_le (by rw [hexk_length]; omega), List.drop_append_of_le_length (by rw [hexk_length]; omega), List.drop_of_length_le (by rw [hexk_length]; omega), List.nil_append, tagP_iff.2 ⟨h, rfl⟩, cntP_iff.2 ⟨hn, rfl⟩]
/-- A tag's octets; the tag of tags. -/
def oc4 (t : Nat) : List UInt8 := [(t / 16777216).toUInt8, (t / 65536 % 256).toUInt8, (t / 256 % 256).toUInt8, (t % 256).toUInt8]
def manyP (l : List Nat) : List UInt8 := hexk 8 (crc (l.flatMap oc4)) ++ cnt l.length
theorem readP_many {l : List Nat} (h : 1 ≤ l.length) (h2 : l.length ≤ 100) : readP (manyP l) = some (crc (l.flatMap oc4), l.length) := readP_iff.2 ⟨crc_lt _, .inr ⟨⟨h, h2⟩, rfl⟩⟩
theorem many_ne {l m : List Nat} (h1 : 1 ≤ l.length) (h2 : l.length ≤ 100) (h3 : 1 ≤ m.length) (h4 : m.length ≤ 100) (h : l.length ≠ m.length) : manyP l ≠ manyP m := by
  intro e
  have a := readP_many h1 h2
  rw [e, readP_many h3 h4] at a
  simp at a
  exact h a.2.symm
/-- Of two numbers the greater one's digits are behind the other one's. -/
theorem hx_lt {a b : Nat} (ha : a < 16) (hb : b < 16) : (hx a).toNat < (hx b).toNat ↔ a < b := by
  have h1 := hx_nat ha
  have h2 := hx_nat hb
  split at h1 <;> split at h2 <;> omega
theorem less_snoc (r s : List UInt8) (h : r.length = s.length) (x y : UInt8) : Op.bytesLess (r ++ [x]) (s ++ [y]) = (Op.bytesLess r s || (decide (r = s) && decide (x < y))) := by
  induction r generalizing s with
  | nil => obtain rfl := List.length_eq_zero_iff.1 h.symm; simp [Op.bytesLess]
  | cons a r ih =>
    cases s with
    | nil => simp at h
    | cons b s =>
      have h' : r.length = s.length := by simpa using h
      rw [List.cons_append, List.cons_append, Op.bytesLess, Op.bytesLess, ih s h']
      by_cases hab : a = b
      · subst hab
        have : ¬ a < a := by rw [UInt8.lt_iff_toNat_lt]; omega
        simp [this]
      · have : (a == b) = false := by simpa using hab
        simp [hab, this]
theorem hexk_injk {k a b : Nat} (hk : k ≤ 8) (ha : a < 16 ^ k) (hb : b < 16 ^ k) (e : hexk k a = hexk k b) : a = b := by
  rw [← rawv_hexk k a ha hk, e, rawv_hexk k b hb hk]
theorem less_hexk (k a b : Nat) (hk : k ≤ 8) (ha : a < 16 ^ k) (hb : b < 16 ^ k) : Op.bytesLess (hexk k a) (hexk k b) = decide (a < b) := by
  induction k generalizing a b with
  | zero => simp at ha hb; subst ha hb; simp [hexk, Op.bytesLess]
  | succ k ih =>
    have ha2 : a / 16 < 16 ^ k := by rw [Nat.pow_succ] at ha; omega
    have hb2 : b / 16 < 16 ^ k := by rw [Nat.pow_succ] at hb; omega
    have h1 := @hx_lt (a % 16) (b % 16) (Nat.mod_lt _ (by omega)) (Nat.mod_lt _ (by omega))
    rw [hexk, hexk, less_snoc _ _ (by rw [hexk_length, hexk_length]), ih _ _ (by omega) ha2 hb2]
    by_cases e : a / 16 = b / 16
    · rw [e]
      simp only [Nat.lt_irrefl, decide_false, Bool.false_or, decide_true, Bool.true_and]
      rw [decide_eq_decide, UInt8.lt_iff_toNat_lt, h1]; omega
    · have : ¬ hexk k (a / 16) = hexk k (b / 16) := fun e2 => e (hexk_injk (by omega) ha2 hb2 e2)
      simp only [this, decide_false, Bool.false_and, Bool.or_false]
      rw [decide_eq_decide]; omega
theorem less_tags {a b : Nat} (ha : a < 4294967296) (hb : b < 4294967296) : Op.bytesLess (hexk 8 a) (hexk 8 b) = decide (a < b) := less_hexk 8 a b (Nat.le_refl _) ha hb
end Go.Proofs.Ytlahccmlnbdekaa
