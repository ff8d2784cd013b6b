/-
  Plain facts on numbers' digits. Plain facts on tags: the register, the text, how many. Contracts of the register: the program's step, More, Of, and the document's step, Of, More. Contracts of the program's step, More, Of. Contracts of the program's digits, Text, countText, isMany. Plain facts on digits read, and contracts of the program's digit, number, Parse, count, Read. Contracts of the program's digit, number, Parse, count, Read. Contracts of the document's Text, Parse, Count. Contracts of the document's Parse and Read. Slices of tags, and contracts of the program's Many and the document's. Contracts of the document's step, Of, More. Contract of the document's Many.
-/
import Derived.Test.YtjjlbbfhmpbneaaGreatKa
import Derived.Lib.VarintMem
import Derived.Laws.BitsAllLaws
import Derived.Deep.RegionWith
namespace Go.Proofs.YtjjlbbfhmpbneaaGreat
set_option maxRecDepth 100000
open Go.ChangeShapes Go.WideShapes Go.ChangeAt Go.RowKit
set_option linter.unusedVariables false
/-- A digit, a number's digits without a nought alone, and a number's digits. -/
def dig (n : Nat) : UInt8 := (48 + n % 10).toUInt8
def dg0 (n : Nat) : List UInt8 := if h : n = 0 then [] else dg0 (n / 10) ++ [dig n]
termination_by n
decreasing_by omega
def digs (n : Nat) : List UInt8 := dg0 (n / 10) ++ [dig n]
theorem dg0_zero : dg0 0 = [] := by rw [dg0]; simp
theorem dg0_pos {n : Nat} (h : n ≠ 0) : dg0 n = digs n := by rw [dg0, dif_neg h, digs]
theorem dg0_step {n : Nat} (h : n ≠ 0) : dg0 n = dg0 (n / 10) ++ [dig n] := by rw [dg0, dif_neg h]
theorem dig_nat (n : Nat) : (dig n).toNat = 48 + n % 10 := by rw [dig, Lib.toUInt8_toNat (by omega)]
/-- The value of digits behind a number. -/
def vd (n : Nat) (l : List UInt8) : Nat := l.foldl (fun n c => 10 * n + (c.toNat - 48)) n
def isD (c : UInt8) : Prop := 48 ≤ c.toNat ∧ c.toNat ≤ 57
theorem digs_ne (n : Nat) : digs n ≠ [] := by simp [digs]
theorem dg0_len (k n : Nat) (h : n < 10 ^ k) : (dg0 n).length ≤ k := by
  induction k generalizing n with
  | zero => obtain rfl : n = 0 := by simp at h; exact h
            simp [dg0_zero]
  | succ k ih =>
    by_cases h0 : n = 0
    · subst h0; simp [dg0_zero]
    · rw [dg0_step h0, List.length_append]
      have := ih (n / 10) (by rw [Nat.pow_succ] at h; omega)
      simp; omega
theorem digs_len {n : Nat} (h : n ≤ 1099511627775) : (digs n).length ≤ 13 := by
  rw [digs, List.length_append]
  have := dg0_len 12 (n / 10) (by omega)
  simp; omega
/-- What is told of digits, one by one. -/
def acc (n : Nat) : List UInt8 → Option Nat
  | [] => some n
  | c :: r => if 48 ≤ c.toNat ∧ c.toNat ≤ 57 then (if 10 * n + (c.toNat - 48) ≤ 1099511627775 then acc (10 * n + (c.toNat - 48)) r else none) else none
def num (l : List UInt8) : Option Nat := if l = [] then none else if l.head? = some 48 ∧ l ≠ [48] then none else acc 0 l
end Go.Proofs.YtjjlbbfhmpbneaaGreat

namespace Go.Proofs.YtjjlbbfhmpbneaaGreat
set_option maxRecDepth 100000
open Go.ChangeShapes Go.WideShapes Go.ChangeAt Go.RowKit
set_option linter.unusedVariables false
/-- The register: one bit, one octet, octets; a tag; a tag of more octets. -/
def poly : Nat := 2197175160
def t1 (c : Nat) : Nat := if c % 2 = 1 then (c / 2) ^^^ poly else c / 2
def t8 (c : Nat) : Nat := t1 (t1 (t1 (t1 (t1 (t1 (t1 (t1 c)))))))
def stp (c x : Nat) : Nat := t8 (c ^^^ x)
def reg (c : Nat) (l : List UInt8) : Nat := l.foldl (fun c x => stp c x.toNat) c
def more (t : Nat) (l : List UInt8) : Nat := 4294967295 - reg (4294967295 - t) l
def crc (l : List UInt8) : Nat := 4294967295 - reg 4294967295 l
theorem lt_xor {a b : Nat} (ha : a < 4294967296) (hb : b < 4294967296) : a ^^^ b < 4294967296 := Nat.xor_lt_two_pow (n := 32) ha hb
theorem t1_lt {c : Nat} (h : c < 4294967296) : t1 c < 4294967296 := by
  unfold t1
  split
  · exact lt_xor (by omega) (by decide)
  · omega
theorem t8_lt {c : Nat} (h : c < 4294967296) : t8 c < 4294967296 := by
  unfold t8
  exact t1_lt (t1_lt (t1_lt (t1_lt (t1_lt (t1_lt (t1_lt (t1_lt h)))))))
theorem stp_lt {c x : Nat} (h : c < 4294967296) (hx : x < 256) : stp c x < 4294967296 := t8_lt (lt_xor h (by omega))
theorem reg_nil (c : Nat) : reg c [] = c := List.foldl_nil
theorem reg_cons (c : Nat) (x : UInt8) (l : List UInt8) : reg c (x :: l) = reg (stp c x.toNat) l := List.foldl_cons ..
theorem crc_lt (l : List UInt8) : crc l < 4294967296 := by unfold crc; omega
theorem more_zero (l : List UInt8) : more 0 l = crc l := rfl
theorem mod2_xor (a b : Nat) : (a ^^^ b) % 2 = (a % 2 + b % 2) % 2 := by
  have := Nat.xor_mod_two_pow (a := a) (b := b) (n := 1)
  simp only [Nat.pow_one] at this
  rw [this]
  rcases Nat.mod_two_eq_zero_or_one a with h | h <;> rcases Nat.mod_two_eq_zero_or_one b with k | k <;> rw [h, k] <;> rfl
theorem div2_xor (a b : Nat) : (a ^^^ b) / 2 = (a / 2) ^^^ (b / 2) := by
  have := Nat.shiftRight_xor_distrib (a := a) (b := b) (i := 1)
  simpa [Nat.shiftRight_succ] using this
theorem xx (a b : Nat) : a ^^^ (a ^^^ b) = b := by rw [← Nat.xor_assoc, Nat.xor_self, Nat.zero_xor]
theorem t1_xor (a b : Nat) : t1 (a ^^^ b) = t1 a ^^^ t1 b := by
  have hm := mod2_xor a b
  unfold t1
  rcases Nat.mod_two_eq_zero_or_one a with h | h <;> rcases Nat.mod_two_eq_zero_or_one b with k | k <;> rw [h, k] at hm <;> simp only [h, k, hm, div2_xor]
  · simp
  · simp; rw [Nat.xor_assoc]
  · simp; rw [Nat.xor_assoc, Nat.xor_assoc, Nat.xor_comm (b / 2)]
  · simp
    rw [Nat.xor_assoc, Nat.xor_comm (b / 2) poly, xx]
theorem t8_xor (a b : Nat) : t8 (a ^^^ b) = t8 a ^^^ t8 b := by unfold t8; simp only [t1_xor]
/-- Octets by exclusive-or. -/
def xl : List UInt8 → List UInt8 → List UInt8
  | x :: a, y :: b => (x ^^^ y) :: xl a b
  | _, _ => []
theorem flip {x : Nat} (h : x < 4294967296) : 4294967295 - x = 4294967295 ^^^ x := by
  have h1 : (4294967295 ^^^ x) = 4294967295 - x := by
    apply Nat.eq_of_testBit_eq
    intro i
    have e1 : (4294967295 : Nat) = 2 ^ 32 - 1 := rfl
    rw [e1, Nat.testBit_xor, Nat.testBit_two_pow_sub_one, show 2 ^ 32 - 1 - x = 2 ^ 32 - (x + 1) by omega, Nat.testBit_two_pow_sub_succ h]
    by_cases hi : i < 32
    · simp [hi]
    · have : x.testBit i = false := Nat.testBit_lt_two_pow (Nat.lt_of_lt_of_le h (Nat.pow_le_pow_right (n := 2) (by omega) (by omega : 32 ≤ i)))
      simp [hi, this]
  exact h1.symm
/-- A digit of base sixteen; k of them. -/
def hx (d : Nat) : UInt8 := if d < 10 then (48 + d).toUInt8 else (87 + d).toUInt8
def hexk : Nat → Nat → List UInt8
  | 0, _ => []
  | k + 1, t => hexk k (t / 16) ++ [hx (t % 16)]
theorem hexk_length (k t : Nat) : (hexk k t).length = k := by
  induction k generalizing t with
  | zero => rfl
  | succ k ih => rw [hexk, List.length_append, ih]; rfl
theorem hx_nat {d : Nat} (h : d < 16) : (hx d).toNat = if d < 10 then 48 + d else 87 + d := by
  have : ∀ d, d < 16 → (hx d).toNat = if d < 10 then 48 + d else 87 + d := by decide
  exact this d h
/-- What the document's Parse reckons of an octet, and of octets. -/
def rv (c : UInt8) : Nat := if 48 ≤ c.toNat ∧ c.toNat ≤ 57 then c.toNat + 4294967296 - 48 else c.toNat + 4294967296 - 87
def rstep (t : Nat) (c : UInt8) : Nat := (16 * t + rv c) % 4294967296
def rawv (l : List UInt8) : Nat := l.foldl rstep 0
/-- A text's tag. -/
def tagP (l : List UInt8) : Option Nat := if hexk 8 (rawv l) = l then some (rawv l) else none
/-- How many there are, as a text; a text's number. -/
def cnt (n : Nat) : List UInt8 := 45 :: digs n
def cntP : List UInt8 → Option Nat
  | [] => none
  | c :: r => if c = 45 then (match num r with | some n => if 1 ≤ n ∧ n ≤ 100 then some n else none | none => none) else none
def readP (l : List UInt8) : Option (Nat × Nat) :=
  match tagP l with
  | some t => some (t, 0)
  | none => match tagP (l.take 8), cntP (l.drop 8) with
    | some t, some n => some (t, n)
    | _, _ => none
/-- A tag's octets; the tag of tags. -/
def oc4 (t : Nat) : List UInt8 := [(t / 16777216).toUInt8, (t / 65536 % 256).toUInt8, (t / 256 % 256).toUInt8, (t % 256).toUInt8]
def manyP (l : List Nat) : List UInt8 := hexk 8 (crc (l.flatMap oc4)) ++ cnt l.length
end Go.Proofs.YtjjlbbfhmpbneaaGreat

namespace Go.Proofs.YtjjlbbfhmpbneaaGreat
set_option maxRecDepth 100000
open Go.ChangeShapes Go.WideShapes Go.ChangeAt Go.RowKit
set_option linter.unusedVariables false
theorem and1 {r : Nat} (h : r < 4294967296) : bits .and .u32 (r : Int) 1 = ((r % 2 : Nat) : Int) := by
  have := u32_and_nat r 1 h (by omega)
  rw [Nat.and_one_is_mod] at this
  exact this
theorem xorP {r : Nat} (h : r < 4294967296) : bits .xor .u32 (r : Int) 2197175160 = ((r ^^^ poly : Nat) : Int) := u32_xor_nat r 2197175160 h (by omega)
theorem not32 {r : Nat} (h : r < 4294967296) : bits .xor .u32 IntKind.u32.max (r : Int) = ((4294967295 - r : Nat) : Int) := by
  rw [flip h, show IntKind.u32.max = ((4294967295 : Nat) : Int) by decide]; exact u32_xor_nat 4294967295 r (by omega) h
/-- So many bits more. -/
def t1n : Nat → Nat → Nat
  | 0, c => c
  | k + 1, c => t1n k (t1 c)
theorem t1_odd {c : Nat} (h : c % 2 = 1) : t1 c = (c / 2) ^^^ poly := by rw [t1, if_pos h]
theorem t1_even {c : Nat} (h : c % 2 = 0) : t1 c = c / 2 := by rw [t1, if_neg (by omega)]
theorem t8_high (h : Nat) : t8 (256 * h) = h := by
  have e : ∀ m, t1 (2 * m) = m := fun m => by rw [t1_even (by omega)]; omega
  rw [show 256 * h = 2 * (2 * (2 * (2 * (2 * (2 * (2 * (2 * h))))))) by omega, t8]
  simp only [e]
theorem split256 (c : Nat) : c = (256 * (c / 256)) ^^^ (c % 256) := by
  apply Nat.eq_of_testBit_eq
  intro i
  rw [Nat.testBit_xor, show 256 * (c / 256) = 2 ^ 8 * (c / 256) by rfl, Nat.testBit_two_pow_mul, show c % 256 = c % 2 ^ 8 by rfl, Nat.testBit_mod_two_pow, show c / 256 = c / 2 ^ 8 by rfl, Nat.testBit_div_two_pow]
  by_cases h : i < 8
  · have : ¬ 8 ≤ i := by omega
    simp [h, this]
  · have h2 : 8 ≤ i := by omega
    simp [h, h2]
/-- An octet's step by what its lowest bits do. -/
theorem stp_low (c x : Nat) : stp c x = (c / 256) ^^^ t8 ((c % 256) ^^^ x) := by
  rw [stp]
  conv => lhs; rw [split256 c]
  rw [Nat.xor_assoc, t8_xor, t8_high]
end Go.Proofs.YtjjlbbfhmpbneaaGreat

namespace Go.Proofs.YtjjlbbfhmpbneaaGreat
set_option maxRecDepth 100000
open Go.ChangeShapes Go.WideShapes Go.ChangeAt Go.RowKit
set_option linter.unusedVariables false
theorem xorH {r : Nat} (h : r < 4294967296) : bits .xor .u32 ((r : Int) / 2) 2197175160 = ((r / 2 ^^^ poly : Nat) : Int) := by
  rw [← xorP (r := r / 2) (by omega)]; rfl
set_option maxHeartbeats 1000000 in
theorem step_any (x : Nat) (w : World) (hx : x < 256) :
    Calls Tryz.prog 181 #[.int .u8 x] w fun e w' => e = .returned (.int .u32 (t8 x : Nat)) ∧ w = w' := by
  go_enter Tryz.func181, Tryz.ntmps181
  go_wp2_with fail
  go_loop [3, 7] (fun R I => ∃ i r : Nat, i ≤ 8 ∧ r < 4294967296 ∧ I = .int .i64 i ∧ R = .int .u32 r ∧ Hid (t8 x = t1n (8 - i) r)) (fun _ I => 8 - (intOf I).toNat)
  case atStart => exact ⟨0, x, by omega, by omega, rfl, by go_num, Lib.hid rfl⟩
  case round =>
    obtain ⟨i, r, hi, hr, rfl, rfl, HM⟩ := hrel
    by_cases hlt : i < 8
    · have HM2 : Hid (t8 x = t1n (8 - (i + 1)) (t1 r)) := Lib.hid (by rw [HM.out, show 8 - i = 8 - (i + 1) + 1 by omega, t1n])
      have ha := and1 hr
      have hl := t1_lt hr
      rcases Nat.mod_two_eq_zero_or_one r with h | h
      · rw [t1_even h] at HM2 hl
        rw [h] at ha
        go_wp2
        go_round
        case rel => exact ⟨i + 1, r / 2, by omega, hl, by go_num, by go_num, HM2⟩
        case measure => simp [intOf]; omega
      · rw [t1_odd h] at HM2 hl
        rw [h] at ha
        have hb := xorH hr
        go_wp2
        go_round
        case rel => exact ⟨i + 1, _, by omega, hl, by go_num, by go_num, HM2⟩
        case measure => simp [intOf]; omega
    · rw [show 8 - i = 0 by omega, t1n] at HM
      go_wp2
      go_ret
      exact ⟨by rw [HM.out]; rfl, rfl⟩
theorem xor8 {a : Nat} (x : Nat) (hx : x < 256) : bits .xor .u8 ((a : Int) % 256) (x : Int) = ((a % 256 ^^^ x : Nat) : Int) := by
  rw [← u8_xor_nat (a % 256) x (by omega) hx]; rfl
theorem xor_up {a b : Nat} (ha : a < 4294967296) (hb : b < 4294967296) : bits .xor .u32 ((a : Int) / 256) (b : Int) = ((a / 256 ^^^ b : Nat) : Int) := by
  rw [← u32_xor_nat (a / 256) b (by omega) hb]; rfl
theorem stp_low_lt {a x : Nat} (hx : x < 256) : a % 256 ^^^ x < 256 := Nat.xor_lt_two_pow (n := 8) (by omega) (by omega)
theorem drop_atT (s : ByteArray) {k : Nat} (h : k < s.size) : (bl s).drop k = s[k] :: (bl s).drop (k + 1) := by
  rw [List.drop_eq_getElem_cons (by rw [bl_length]; exact h)]; rfl
theorem drop_end (s : ByteArray) : (bl s).drop s.size = [] := by rw [List.drop_eq_nil_iff, bl_length]; exact Nat.le_refl _
set_option maxHeartbeats 1000000 in
theorem more_any (t : Nat) (s : ByteArray) (w : World) (ht : t < 4294967296) (hs : s.size ≤ 5000) :
    Calls Tryz.prog 165 #[.int .u32 t, .string s] w fun e w' => e = .returned (.int .u32 (more t (bl s) : Nat)) ∧ w = w' := by
  have hn := not32 ht
  go_enter Tryz.func165, Tryz.ntmps165
  go_wp2_with fail
  go_loop [5, 11] (fun R I => ∃ i r : Nat, i ≤ s.size ∧ r < 4294967296 ∧ I = .int .i64 i ∧ R = .int .u32 r ∧ Hid (reg (4294967295 - t) (bl s) = reg r ((bl s).drop i))) (fun _ I => s.size - (intOf I).toNat)
  case atStart => exact ⟨0, 4294967295 - t, by omega, by omega, rfl, by go_num, Lib.hid (by rw [List.drop_zero])⟩
  case round =>
    obtain ⟨i, r, hi, hr, rfl, rfl, HM⟩ := hrel
    clear hn
    by_cases hlt : i < s.size
    · rw [drop_atT s hlt, reg_cons, stp_low] at HM
      have hx := UInt8.toNat_lt s[i]
      have h8 := xor8 (a := r) s[i].toNat hx
      have hl := stp_low_lt (a := r) hx
      have ht8 := t8_lt (c := r % 256 ^^^ s[i].toNat) (by omega)
      have hu := xor_up hr ht8
      have hr2 : r / 256 ^^^ t8 (r % 256 ^^^ s[i].toNat) < 4294967296 := lt_xor (by omega) ht8
      have C := Lib.hid (fun w => step_any _ w hl)
      go_wp2_with fail
      refine (C.out _).mono ?_
      rintro e w1 ⟨rfl, rfl⟩
      go_wp2
      go_round
      case rel => exact ⟨i + 1, _, by omega, hr2, by go_num, by go_num, HM⟩
      case measure => simp [intOf]; omega
    · obtain rfl : i = s.size := by omega
      rw [drop_end, reg_nil] at HM
      have hn := not32 hr
      go_wp2
      go_ret
      exact ⟨by rw [more, HM.out]; rfl, rfl⟩
set_option maxHeartbeats 1000000 in
theorem of_any (s : ByteArray) (w : World) (hs : s.size ≤ 5000) :
    Calls Tryz.prog 146 #[.string s] w fun e w' => e = .returned (.int .u32 (crc (bl s) : Nat)) ∧ w = w' := by
  have C := Lib.hid (fun w => more_any 0 s w (by omega) hs)
  rw [more_zero] at C
  go_enter Tryz.func146, Tryz.ntmps146
  go_wp2_with fail
  refine (C.out _).mono ?_
  rintro e w1 ⟨rfl, rfl⟩
  go_wp2
  go_ret
  exact ⟨rfl, rfl⟩
end Go.Proofs.YtjjlbbfhmpbneaaGreat

namespace Go.Proofs.YtjjlbbfhmpbneaaGreat
set_option maxRecDepth 100000
open Go.ChangeShapes Go.WideShapes Go.ChangeAt Go.RowKit
set_option linter.unusedVariables false
theorem toQ {P : Program} {f : FuncId} {args : Array Value} {w : World} {v : Value} (h : Calls P f args w fun e w' => e = .returned v ∧ D w w') : Calls P f args w fun e w' => e = .returned v ∧ Q w w' :=
  h.mono fun _ _ ⟨a, b⟩ => ⟨a, b.q⟩
/-- The digits of base sixteen. -/
abbrev sym : ByteArray := ⟨#[48, 49, 50, 51, 52, 53, 54, 55, 56, 57, 97, 98, 99, 100, 101, 102]⟩
theorem sym_cut (d : Nat) (h : d < 16) : sym.extract d (d + 1) = mk [hx d] := by
  have : ∀ d, d < 16 → sym.extract d (d + 1) = mk [hx d] := by decide +kernel
  exact this d h
theorem mk_append (a b : List UInt8) : mk a ++ mk b = mk (a ++ b) := by apply bl_inj; rw [bl_append, bl_mk, bl_mk, bl_mk]
/-- What is left of a tag, and the digits that are there. -/
def LeftH (n k m : Nat) (t : ByteArray) : Prop := m < 16 ^ k ∧ k + t.size = 8 ∧ hexk 8 n = hexk k m ++ bl t
theorem LeftH.step {n k m : Nat} {t : ByteArray} (h : LeftH n (k + 1) m t) : LeftH n k (m / 16) (mk [hx (m % 16)] ++ t) := by
  obtain ⟨h1, h2, h3⟩ := h
  refine ⟨by rw [Nat.pow_succ] at h1; omega, by rw [ByteArray.size_append, mk_size]; simp; omega, ?_⟩
  rw [h3, hexk, bl_append, bl_mk, List.append_assoc]
theorem LeftH.last {n m : Nat} {t : ByteArray} (h : LeftH n 0 m t) : m = 0 ∧ t.size = 8 ∧ t = mk (hexk 8 n) := by
  obtain ⟨h1, h2, h3⟩ := h
  refine ⟨by simp at h1; exact h1, by omega, ?_⟩
  rw [h3, hexk, List.nil_append, mk_bl]
def szN : Value → Nat | .string s => s.size | _ => 0
set_option maxHeartbeats 1000000 in
theorem digits_hex (n : Nat) (w : World) (hn : n < 4294967296) :
    Calls Tryz.prog 183 #[.int .u32 n, .int .u32 16, .int .i64 8] w fun e w' => e = .returned (.string (mk (hexk 8 n))) ∧ D w w' := by
  go_enter Tryz.func183, Tryz.ntmps183
  go_wp2_with fail
  go_loopw [0, 7] (fun N S wr => ∃ (k m : Nat) (t : ByteArray), m < 4294967296 ∧ N = .int .u32 m ∧ S = .string t ∧ t.size ≤ 8 ∧ Hid (LeftH n k m t) ∧ D w wr) (fun _ S _ => 8 - szN S)
  case atStart => exact ⟨8, n, ⟨#[]⟩, hn, rfl, rfl, by decide, Lib.hid ⟨hn, rfl, by simp [bl]⟩, D.refl _⟩
  case round =>
    obtain ⟨k, m, t, hm, rfl, rfl, ht, HL, q⟩ := hrel
    cases k with
    | zero =>
      obtain ⟨rfl, h8, h9⟩ := HL.out.last
      have HV := Lib.hid h9
      clear h9
      go_wp2
      go_ret
      exact ⟨ret_str HV.out, q⟩
    | succ k =>
      have hlt : t.size < 8 := by have := HL.out.2.1; omega
      have HS := Lib.hid HL.out.step
      have hc := sym_cut (m % 16) (Nat.mod_lt _ (by omega))
      obtain ⟨d, hd⟩ : ∃ d, d = mk [hx (m % 16)] := ⟨_, rfl⟩
      rw [← hd] at hc HS
      have hd1 : d.size = 1 := by rw [hd]; rfl
      have hsz : (d ++ t).size = t.size + 1 := by rw [ByteArray.size_append]; omega
      have hsz2 : (d ++ t).size ≤ 8 := by omega
      clear hd
      have hb : m % 16 < 16 := Nat.mod_lt _ (by omega)
      have hb2 : (m : Int) % 16 + 1 ≤ 16 := by omega
      have hb3 : (0 : Int) ≤ (m : Int) % 16 := by omega
      by_cases h0 : m = 0
      · subst h0
        have hc0 : sym.extract 0 1 = d := hc
        clear hc hb hb2 hb3
        go_wp2
        go_region
        go_wp2
        go_roundw
        case rel => exact ⟨k, 0, _, by omega, by go_num, rfl, hsz2, HS, q.drew⟩
        case measure => simp only [szN]; rw [hsz]; omega
      · have hp : 0 < m := by omega
        go_wp2
        go_region
        go_wp2
        go_roundw
        case rel => exact ⟨k, m / 16, _, Nat.lt_of_le_of_lt (Nat.div_le_self m 16) hm, by go_num, rfl, hsz2, HS, q.drew⟩
        case measure => simp only [szN]; rw [hsz]; omega
theorem sym_dig (m : Nat) : sym.extract (m % 10) (m % 10 + 1) = mk [dig m] := by
  rw [sym_cut _ (by omega)]
  congr 2
  apply UInt8.toNat_inj.1
  rw [dig_nat, hx_nat (by omega), if_pos (by omega)]
/-- What is left of a number, and the digits that are there. -/
def Left (n m : Nat) (t : ByteArray) : Prop := digs n = dg0 m ++ bl t
theorem Left.step {n m : Nat} {t : ByteArray} (h : Left n m t) (hm : m ≠ 0) : Left n (m / 10) (mk [dig m] ++ t) := by
  unfold Left at h ⊢
  rw [h, dg0_step hm, bl_append, bl_mk, List.append_assoc]
theorem Left.size {n m : Nat} {t : ByteArray} (h : Left n m t) (hn : n ≤ 100) : t.size ≤ 13 := by
  have h1 := digs_len (n := n) (by omega)
  unfold Left at h
  rw [h, List.length_append, bl_length] at h1; omega
theorem Left.last {n : Nat} {t : ByteArray} (h : Left n 0 t) : t = mk (digs n) := by
  unfold Left at h
  rw [h, dg0_zero, List.nil_append, mk_bl]
theorem Left.pos {n : Nat} {t : ByteArray} (h : Left n 0 t) : 0 < t.size := by
  rw [h.last, mk_size]
  exact List.length_pos_iff.2 (digs_ne n)
set_option maxHeartbeats 1000000 in
theorem digits_dec (n : Nat) (w : World) (h1 : 1 ≤ n) (hn : n ≤ 100) :
    Calls Tryz.prog 183 #[.int .u32 n, .int .u32 10, .int .i64 1] w fun e w' => e = .returned (.string (mk (digs n))) ∧ D w w' := by
  go_enter Tryz.func183, Tryz.ntmps183
  go_wp2_with fail
  go_loopw [0, 7] (fun N S wr => ∃ (m : Nat) (t : ByteArray), m ≤ 100 ∧ N = .int .u32 m ∧ S = .string t ∧ t.size ≤ 13 ∧ Hid (Left n m t) ∧ D w wr) (fun N _ _ => (intOf N).toNat)
  case atStart => exact ⟨n, ⟨#[]⟩, hn, rfl, rfl, by decide, Lib.hid (by rw [Left, dg0_pos (by omega)]; simp [bl]), D.refl _⟩
  case round =>
    obtain ⟨m, t, hm, rfl, rfl, ht, HL, q⟩ := hrel
    by_cases h0 : m = 0
    · subst h0
      have hp := HL.out.pos
      have HV := Lib.hid HL.out.last
      have hlt : ¬ ((t.size : Int) < 1) := by omega
      go_wp2
      go_ret
      exact ⟨ret_str HV.out, q⟩
    · have HS := Lib.hid (HL.out.step h0)
      have hc := sym_dig m
      obtain ⟨d, hd⟩ : ∃ d, d = mk [dig m] := ⟨_, rfl⟩
      rw [← hd] at hc HS
      have hd1 : d.size = 1 := by rw [hd]; rfl
      have HZ := Lib.hid (HS.out.size hn)
      clear hd
      have hp : 0 < m := by omega
      have hb : m % 10 < 10 := Nat.mod_lt _ (by omega)
      have hb2 : (m : Int) % 10 + 1 ≤ 16 := by omega
      have hb3 : (0 : Int) ≤ (m : Int) % 10 := by omega
      clear h0
      go_wp2
      go_region
      go_wp2
      go_roundw
      case rel => exact ⟨m / 10, _, by omega, by go_num, rfl, HZ.out, HS, q.drew⟩
      case measure => simp [intOf]; omega
set_option maxHeartbeats 1000000 in
theorem text_d (n : Nat) (w : World) (hn : n < 4294967296) :
    Calls Tryz.prog 171 #[.int .u32 n] w fun e w' => e = .returned (.string (mk (hexk 8 n))) ∧ D w w' := by
  have C := Lib.hid fun w => digits_hex n w hn
  go_enter Tryz.func171, Tryz.ntmps171
  go_wp2_with fail
  refine (C.out _).mono ?_
  rintro e w1 ⟨rfl, q⟩
  go_wp2
  go_ret
  exact ⟨rfl, q⟩
set_option maxHeartbeats 1000000 in
theorem countText_d (n : Nat) (w : World) (h1 : 1 ≤ n) (hn : n ≤ 100) :
    Calls Tryz.prog 172 #[.int .i64 n] w fun e w' => e = .returned (.string (mk (cnt n))) ∧ D w w' := by
  have C := Lib.hid fun w => digits_dec n w h1 hn
  have hl := digs_len (n := n) (by omega)
  have HC : Hid ((⟨#[45]⟩ : ByteArray) ++ mk (digs n) = mk (cnt n)) := Lib.hid (by rw [cnt, show (⟨#[45]⟩ : ByteArray) = mk [45] by rfl, mk_append]; rfl)
  have hz : (mk (digs n)).size ≤ 13 := by rw [mk_size]; omega
  obtain ⟨d, hd⟩ : ∃ d, d = mk (digs n) := ⟨_, rfl⟩
  rw [← hd] at C HC hz
  clear hd hl
  go_enter Tryz.func172, Tryz.ntmps172
  go_wp2_with fail
  refine (C.out _).mono ?_
  rintro e w1 ⟨rfl, q⟩
  go_wp2
  go_ret
  exact ⟨ret_str HC.out, q⟩
theorem text_any (n : Nat) (w : World) (hn : n < 4294967296) :
    Calls Tryz.prog 171 #[.int .u32 n] w fun e w' => e = .returned (.string (mk (hexk 8 n))) ∧ Q w w' := toQ (text_d n w hn)
theorem countText_any (n : Nat) (w : World) (h1 : 1 ≤ n) (hn : n ≤ 100) :
    Calls Tryz.prog 172 #[.int .i64 n] w fun e w' => e = .returned (.string (mk (cnt n))) ∧ Q w w' := toQ (countText_d n w h1 hn)
set_option maxHeartbeats 1000000 in
theorem isMany_any (n : Int) (w : World) :
    Calls Tryz.prog 170 #[.int .i64 n] w fun e w' => e = .returned (.bool (decide (1 ≤ n ∧ n ≤ 100))) ∧ w = w' := by
  by_cases h1 : 1 ≤ n
  · by_cases h2 : n ≤ 100
    · have hv : decide (1 ≤ n ∧ n ≤ 100) = true := by simp [h1, h2]
      rw [hv]
      go_enter Tryz.func170, Tryz.ntmps170
      go_wp2
      go_ret
      exact ⟨ret_bool (by simp), rfl⟩
    · have hv : decide (1 ≤ n ∧ n ≤ 100) = false := by simp [h2]
      rw [hv]
      go_enter Tryz.func170, Tryz.ntmps170
      go_wp2
      go_ret
      exact ⟨ret_bool (by simp), rfl⟩
  · have hv : decide (1 ≤ n ∧ n ≤ 100) = false := by simp [h1]
    rw [hv]
    go_enter Tryz.func170, Tryz.ntmps170
    go_wp2
    go_ret
    exact ⟨ret_bool (by simp), rfl⟩
end Go.Proofs.YtjjlbbfhmpbneaaGreat

namespace Go.Proofs.YtjjlbbfhmpbneaaGreat
set_option maxRecDepth 100000
open Go.ChangeShapes Go.WideShapes Go.ChangeAt Go.RowKit
set_option linter.unusedVariables false
/-- What a digit tells, and digits of a base behind a number. -/
def dv (c : UInt8) : Nat := if 48 ≤ c.toNat ∧ c.toNat ≤ 57 then c.toNat - 48 else if 97 ≤ c.toNat ∧ c.toNat ≤ 102 then c.toNat - 97 + 10 else 16
def nb (b : Nat) : Nat → List UInt8 → Option Nat
  | n, [] => some n
  | n, c :: r => if dv c < b then nb b ((b * n + dv c) % 4294967296) r else none
/-- What is told of how many there are. -/
def cntQ (l : List UInt8) : Option Nat :=
  match nb 10 0 (l.drop 1) with
  | some n => if (1 ≤ n ∧ n ≤ 100) ∧ cnt n = l then some n else none
  | none => none
end Go.Proofs.YtjjlbbfhmpbneaaGreat

namespace Go.Proofs.YtjjlbbfhmpbneaaGreat
set_option maxRecDepth 100000
open Go.ChangeShapes Go.WideShapes Go.ChangeAt Go.RowKit
set_option linter.unusedVariables false
/-- What number tells. -/
def numV : Option Nat → Value
  | some n => .tuple #[.int .u32 n, .bool true]
  | none => .tuple #[.int .u32 0, .bool false]
/-- What Parse tells. -/
def tagV : Option Nat → Value
  | some n => .tuple #[.int .u32 n, .int .i64 0]
  | none => .tuple #[.int .u32 0, .int .i64 2]
/-- What count tells. -/
def cntV : Option Nat → Value
  | some n => .tuple #[.int .i64 n, .bool true]
  | none => .tuple #[.int .i64 0, .bool false]
/-- What Read tells. -/
def readV : Option (Nat × Nat) → Value
  | some (t, n) => .tuple #[.int .u32 t, .int .i64 n, .int .i64 0]
  | none => .tuple #[.int .u32 0, .int .i64 0, .int .i64 2]
end Go.Proofs.YtjjlbbfhmpbneaaGreat

namespace Go.Proofs.YtjjlbbfhmpbneaaGreat
set_option maxRecDepth 100000
open Go.ChangeShapes Go.WideShapes Go.ChangeAt Go.RowKit
set_option linter.unusedVariables false
end Go.Proofs.YtjjlbbfhmpbneaaGreat

namespace Go.Proofs.YtjjlbbfhmpbneaaGreat
set_option maxRecDepth 100000
open Go.ChangeShapes Go.WideShapes Go.ChangeAt Go.RowKit
set_option linter.unusedVariables false
/-- What the document's Read tells. -/
def rreadV : Option (Nat × Nat) → Value
  | some (t, n) => .tuple #[.int .u32 t, .int .i64 n, .bool true]
  | none => .tuple #[.int .u32 0, .int .i64 0, .bool false]
end Go.Proofs.YtjjlbbfhmpbneaaGreat

namespace Go.Proofs.YtjjlbbfhmpbneaaGreat
set_option maxRecDepth 100000
open Go.ChangeShapes Go.WideShapes Go.ChangeAt Go.RowKit
set_option linter.unusedVariables false
/-- A slice whose elements are these numbers of 32 bits; all of it lies below block B. -/
def Nums (w : World) (B : Nat) (v : Value) (l : List Nat) : Prop :=
  ∃ A c, v = .slice A l.length c ∧ l.length ≤ c ∧ (A = none → c = 0) ∧ ∀ k (h : k < l.length), ∃ a : Addr, A = some a ∧ a.block < B ∧ l[k] < 4294967296 ∧ w.cell? (a.add k) = some (.int .u32 (l[k] : Nat))
theorem Nums.keep {w w' : World} {B : Nat} {v : Value} {l : List Nat} (h : Nums w B v l) (k : ∀ p : Addr, p.block < B → w'.cell? p = w.cell? p) : Nums w' B v l := by
  obtain ⟨A, c, e, e0, ez, f⟩ := h
  refine ⟨A, c, e, e0, ez, fun i hi => ?_⟩
  obtain ⟨a, e1, e2, e3, e4⟩ := f i hi
  exact ⟨a, e1, e2, e3, (k _ (by rw [add_block]; exact e2)).trans e4⟩
theorem Nums.below {w w' : World} {B : Nat} {v : Value} {l : List Nat} (h : Nums w B v l) (k : Below B w w') : Nums w' B v l := h.keep fun _ hp => k.cell hp
theorem Nums.more {w : World} {B B' : Nat} {v : Value} {l : List Nat} (h : Nums w B v l) (k : B ≤ B') : Nums w B' v l := by
  obtain ⟨A, c, e, e0, ez, f⟩ := h
  refine ⟨A, c, e, e0, ez, fun i hi => ?_⟩
  obtain ⟨a, e1, e2, e3⟩ := f i hi
  exact ⟨a, e1, by omega, e3⟩
theorem Nums.on {w w' : World} {v : Value} {l : List Nat} (h : Nums w w.heap.size v l) (k : Q w w') : Nums w' w'.heap.size v l := (h.below k).more k.size
theorem Nums.nil (w : World) (B : Nat) : Nums w B (.slice none 0 0) [] := ⟨none, 0, rfl, Nat.le_refl _, fun _ => rfl, fun k h => absurd h (by simp)⟩
theorem info_u8 : (Tryz.prog.info? 5).map (fun i => (i.zero, i.size, i.bytes)) = some (some (.int .u8 0), 1, 1) := by kernel_rfl
/-- v is a row of the call's own, from block base on, whose octets are l. -/
def Own (base : Nat) (w : World) (v : Value) (l : List UInt8) : Prop := w.ownsRow base 5 1 v l.length (Lib.byteCells l)
theorem Own.nil (base : Nat) (w : World) : Own base w (.slice none 0 0) [] := World.ownsRow_nil w _ _ _
theorem conv_own {base : Nat} {w : World} {v : Value} {l : List UInt8} (h : Own base w v l) (h0 : 0 < l.length) : (convert 209 9 v).run Tryz.prog w = .ok (.string (mk l)) w := by
  rcases h.2 with ⟨-, h1⟩ | ⟨g, cap, cur, rfl, -, -, -, -, -, -⟩
  · omega
  · exact run_convert_bytes_back (P := Tryz.prog) w 209 9 5 ⟨g, 0, none⟩ cap l Tryz.underlying209 Tryz.underlying5 Tryz.underlying9 (fun j hj => World.ownsRow.cells (g := g) h rfl j _ (by simp [Lib.byteCells, hj]))
theorem oc4_length (t : Nat) : (oc4 t).length = 4 := rfl
theorem flat4_length (l : List Nat) : (l.flatMap oc4).length = 4 * l.length := by
  induction l with
  | nil => rfl
  | cons s r ih => rw [List.flatMap_cons, List.length_append, oc4_length, List.length_cons, ih]; omega
theorem take4 (l : List Nat) (j : Nat) (h : j < l.length) : (l.take j).flatMap oc4 ++ oc4 l[j] = (l.take (j + 1)).flatMap oc4 := by
  rw [List.take_succ_eq_append_getElem h, List.flatMap_append]; simp
/-- A tag's octets as cells, as a walk spells them. -/
def news (m : Nat) : List Value := [.int .u8 ((m : Int) / 16777216), .int .u8 ((m : Int) / 65536 % 256), .int .u8 ((m : Int) / 256 % 256), .int .u8 ((m : Int) % 256)]
theorem news_oc4 {m : Nat} (h : m < 4294967296) : news m = Lib.byteCells (oc4 m) := by
  simp only [news, oc4, Lib.byteCells, List.map_cons, List.map_nil]
  rw [Lib.toUInt8_toNat (by omega), Lib.toUInt8_toNat (by omega), Lib.toUInt8_toNat (by omega), Lib.toUInt8_toNat (by omega)]
  rfl
theorem byte_append (a b : List UInt8) : Lib.byteCells (a ++ b) = Lib.byteCells a ++ Lib.byteCells b := by simp [Lib.byteCells]
theorem cells_four (w : World) (l : List Value) (h : l.length = 4) (t : TypeId) : ∀ j u, l[j]? = some u → (w.alloc (.cells l.toArray t)).cell? ((⟨w.heap.size, 0, none⟩ : Addr).add j) = some u := by
  intro j u hj
  obtain ⟨hj2, rfl⟩ := List.getElem?_eq_some_iff.1 hj
  obtain ⟨x0, x1, x2, x3, rfl⟩ : ∃ a b c d, l = [a, b, c, d] := by
    match l, h with
    | [a, b, c, d], _ => exact ⟨a, b, c, d, rfl⟩
  match j, hj2 with
  | 0, _ => simp [Addr.add]
  | 1, _ => simp [Addr.add]
  | 2, _ => simp [Addr.add]
  | 3, _ => simp [Addr.add]
theorem many_step {base : Nat} {w wr w1 : World} {v v' : Value} {L : List UInt8} {m : Nat} (hm : m < 4294967296) (hb : base ≤ w.heap.size)
    (hown : Own base wr v L) (hbel : Below base w wr) {o : Obj}
    (h1 : w1.ownsRow base 5 1 v' (L.length + 4) (Lib.byteCells L ++ news m)) (h2 : (wr.alloc o).grownBy w1 v.ownBlock) :
    Own base w1 v' (L ++ oc4 m) ∧ Below base w w1 := by
  have hs : base ≤ wr.heap.size := Nat.le_trans hb hbel.size
  refine ⟨?_, (hbel.alloc hs o).grown h2 (by simp; omega) (fun k hk => (World.ownsRow.lt hown k hk).1)⟩
  unfold Own
  rw [byte_append, ← news_oc4 hm, List.length_append, oc4_length]
  exact h1
set_option maxHeartbeats 1000000 in
theorem many_yes (l : List Nat) (v : Value) (w : World) (h1 : 1 ≤ l.length) (h2 : l.length ≤ 100) (ht : Nums w w.heap.size v l) :
    Calls Tryz.prog 153 #[v] w fun e w' => e = .returned (.tuple #[.string (mk (manyP l)), .int .i64 0]) ∧ Q w w' := by
  obtain ⟨A, c, rfl, -, -, hcells⟩ := ht
  have HC := Lib.hid hcells
  clear hcells
  have M := Lib.hid fun w => isMany_any l.length w
  have hm2 : decide (1 ≤ (l.length : Int) ∧ (l.length : Int) ≤ 100) = true := by simp; omega
  rw [hm2] at M
  clear hm2
  obtain ⟨i0, hi, hz0, hz1, hz2⟩ := info_parts info_u8
  go_enter Tryz.func153, Tryz.ntmps153
  go_wp2_with fail
  refine (M.out _).mono ?_
  rintro e w1 ⟨rfl, rfl⟩
  go_wp2_with fail
  go_loopw [4, 13] (fun v' i wr => ∃ j : Nat, j ≤ l.length ∧ i = .int .i64 j ∧ Own w.heap.size wr v' ((l.take j).flatMap oc4) ∧ Below w.heap.size w wr) (fun _ i _ => l.length - (intOf i).toNat)
  case atStart => exact ⟨0, Nat.zero_le _, rfl, Own.nil _ _, Below.refl _ _⟩
  case round =>
    obtain ⟨j, hj, rfl, hown, hbel⟩ := hrel
    by_cases hlt : j < l.length
    · obtain ⟨a, rfl, ha, hm, hcell⟩ := HC.out j hlt
      have hcell' := (hbel.cell (p := a.add j) (by rw [add_block]; exact ha)).trans hcell
      clear hcell
      obtain ⟨m, hmj⟩ : ∃ m, m = l[j] := ⟨_, rfl⟩
      rw [← hmj] at hcell' hm
      have HM : Hid ((l.take j).flatMap oc4 ++ oc4 m = (l.take (j + 1)).flatMap oc4) := Lib.hid (by rw [hmj]; exact take4 l j hlt)
      have hlen : ((l.take j).flatMap oc4).length ≤ 400 := by rw [flat4_length, List.length_take]; omega
      have hs : w.heap.size ≤ wr.heap.size := hbel.size
      clear hmj
      go_wp2_with (first | (at_builtin; refine wpList_append_own _ rfl _ _ 209 rfl w.heap.size 5 i0 (.int .u8 0) 1 1 Tryz.underlying209 hi hz0 hz1 hz2 rfl (by decide) _ _ _ rfl (World.ownsRow.alloc hown _) ⟨wr.heap.size, 0, none⟩ 4 4 (news m) rfl rfl (cells_four _ (news m) rfl _) (by intro u hu; simp [news] at hu; rcases hu with rfl | rfl | rfl | rfl <;> rfl) (by unfold maxLen; omega) (by omega) (by simp; omega) ?_; intro v1 w1 h1 h2 _; have R := many_step hm (Nat.le_refl _) hown hbel h1 h2; rw [HM.out] at R; clear h1 h2))
      go_roundw
      case rel => exact ⟨j + 1, by omega, by go_num, R.1, R.2⟩
      case measure => simp [intOf]; omega
    · obtain rfl : j = l.length := by omega
      rw [List.take_length] at hown
      have hz : 0 < (l.flatMap oc4).length := by rw [flat4_length]; omega
      have hc := conv_own hown hz
      have hsz : (mk (l.flatMap oc4)).size ≤ 5000 := by rw [mk_size, flat4_length]; omega
      have O := Lib.hid fun w => of_any (mk (l.flatMap oc4)) w hsz
      rw [bl_mk] at O
      have T := Lib.hid fun w => text_any (crc (l.flatMap oc4)) w (crc_lt _)
      have C := Lib.hid fun w => countText_any l.length w h1 h2
      have HV : Hid (mk (hexk 8 (crc (l.flatMap oc4))) ++ mk (cnt l.length) = mk (manyP l)) := Lib.hid (mk_append _ _)
      have z1 : (mk (hexk 8 (crc (l.flatMap oc4)))).size = 8 := by rw [mk_size, hexk_length]
      have z2 : (mk (cnt l.length)).size ≤ 14 := by rw [mk_size, cnt]; have := digs_len (n := l.length) (by omega); simp; omega
      obtain ⟨x, hx⟩ : ∃ x, x = mk (hexk 8 (crc (l.flatMap oc4))) := ⟨_, rfl⟩
      obtain ⟨y, hy⟩ : ∃ y, y = mk (cnt l.length) := ⟨_, rfl⟩
      rw [← hx] at T HV z1
      rw [← hy] at C HV z2
      clear hx hy hz
      go_wp2_with fail
      refine (O.out _).mono ?_
      rintro e w2 ⟨rfl, rfl⟩
      go_wp2_with fail
      refine (T.out _).mono ?_
      rintro e w3 ⟨rfl, q3⟩
      go_wp2_with fail
      refine (C.out _).mono ?_
      rintro e w4 ⟨rfl, q4⟩
      go_wp2
      go_ret2
      exact ⟨by rw [← HV.out]; rfl, (Q.trans hbel q3).trans q4⟩
end Go.Proofs.YtjjlbbfhmpbneaaGreat

namespace Go.Proofs.YtjjlbbfhmpbneaaGreat
set_option maxRecDepth 100000
open Go.ChangeShapes Go.WideShapes Go.ChangeAt Go.RowKit
set_option linter.unusedVariables false
theorem xor32 {r x : Nat} (h : r < 4294967296) (hx : x < 256) : bits .xor .u32 (r : Int) (x : Int) = ((r ^^^ x : Nat) : Int) := u32_xor_nat r x h (by omega)
theorem xorR {r : Nat} (h : r < 4294967296) : bits .xor .u32 ((r : Int) / 2) 2197175160 = ((r / 2 ^^^ poly : Nat) : Int) := xorH h
set_option maxHeartbeats 1000000 in
theorem rstep_any (c x : Nat) (w : World) (hc : c < 4294967296) (hx : x < 256) :
    Calls Tryz.prog 64 #[.int .u32 c, .int .u8 x] w fun e w' => e = .returned (.int .u32 (stp c x : Nat)) ∧ w = w' := by
  have h0 := xor32 hc hx
  have hl0 : c ^^^ x < 4294967296 := lt_xor hc (by omega)
  go_enter Tryz.func64, Tryz.ntmps64
  go_wp2_with fail
  go_loop [0, 5] (fun R I => ∃ i r : Nat, i ≤ 8 ∧ r < 4294967296 ∧ I = .int .i64 i ∧ R = .int .u32 r ∧ Hid (stp c x = t1n (8 - i) r)) (fun _ I => 8 - (intOf I).toNat)
  case atStart => exact ⟨0, c ^^^ x, by omega, hl0, rfl, by go_num, Lib.hid rfl⟩
  case round =>
    obtain ⟨i, r, hi, hr, rfl, rfl, HM⟩ := hrel
    by_cases hlt : i < 8
    · have HM2 : Hid (stp c x = t1n (8 - (i + 1)) (t1 r)) := Lib.hid (by rw [HM.out, show 8 - i = 8 - (i + 1) + 1 by omega, t1n])
      have hl := t1_lt hr
      rcases Nat.mod_two_eq_zero_or_one r with h | h
      · rw [t1_even h] at HM2 hl
        have hm : ((r : Int) % 2 == 1) = false := by
          have : ¬ (r : Int) % 2 = 1 := by omega
          simpa using this
        go_wp2
        go_round
        case rel => exact ⟨i + 1, r / 2, by omega, hl, by go_num, by go_num, HM2⟩
        case measure => simp [intOf]; omega
      · rw [t1_odd h] at HM2 hl
        have hm : ((r : Int) % 2 == 1) = true := by
          have : (r : Int) % 2 = 1 := by omega
          simpa using this
        have hb := xorR hr
        go_wp2
        go_round
        case rel => exact ⟨i + 1, _, by omega, hl, by go_num, by go_num, HM2⟩
        case measure => simp [intOf]; omega
    · rw [show 8 - i = 0 by omega, t1n] at HM
      go_wp2
      go_ret
      exact ⟨by rw [HM.out]; rfl, rfl⟩
set_option maxHeartbeats 1000000 in
theorem rof_any (s : ByteArray) (w : World) (hs : s.size ≤ 5000) :
    Calls Tryz.prog 25 #[.string s] w fun e w' => e = .returned (.int .u32 (crc (bl s) : Nat)) ∧ w = w' := by
  go_enter Tryz.func25, Tryz.ntmps25
  go_wp2_with fail
  go_loop [3, 4] (fun R I => ∃ i r : Nat, i ≤ s.size ∧ r < 4294967296 ∧ I = .int .i64 i ∧ R = .int .u32 r ∧ Hid (reg (4294967295) (bl s) = reg r ((bl s).drop i))) (fun _ I => s.size - (intOf I).toNat)
  case atStart => exact ⟨0, 4294967295, by omega, by omega, rfl, by go_num, Lib.hid (by rw [List.drop_zero])⟩
  case round =>
    obtain ⟨i, r, hi, hr, rfl, rfl, HM⟩ := hrel
    by_cases hlt : i < s.size
    · rw [drop_atT s hlt, reg_cons] at HM
      have hx := UInt8.toNat_lt s[i]
      have C := Lib.hid (fun w => rstep_any r s[i].toNat w hr hx)
      have hr2 := stp_lt hr hx
      go_wp2_with fail
      refine (C.out _).mono ?_
      rintro e w1 ⟨rfl, rfl⟩
      go_wp2
      go_round
      case rel => exact ⟨i + 1, _, by omega, hr2, by go_num, by go_num, HM⟩
      case measure => simp [intOf]; omega
    · obtain rfl : i = s.size := by omega
      rw [drop_end, reg_nil] at HM
      have he : Hid ((4294967295 : Int) - (r : Int) = ((crc (bl s) : Nat) : Int)) := Lib.hid (by rw [crc, HM.out]; omega)
      go_wp2
      go_ret
      exact ⟨by rw [← he.out]; rfl, rfl⟩
end Go.Proofs.YtjjlbbfhmpbneaaGreat

namespace Go.Proofs.YtjjlbbfhmpbneaaGreat
set_option maxRecDepth 100000
open Go.ChangeShapes Go.WideShapes Go.ChangeAt Go.RowKit
set_option linter.unusedVariables false
end Go.Proofs.YtjjlbbfhmpbneaaGreat

