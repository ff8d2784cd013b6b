/-
  Contracts of slices.Grow and slices.Concat of three lists of parts.
-/
import Derived.Test.YtlahccmlnbdekaaURAbort
import Derived.Laws.Cover1
namespace Go.Proofs.Ytlahccmlnbdekaa
open Go.ChangeShapes Go.WideShapes Go.ChangeAt Go.RowKit
set_option linter.unusedVariables false
set_option linter.unusedSimpArgs false
set_option maxRecDepth 100000

theorem add_addP (a : Addr) (m n : Nat) : (a.add m).add n = a.add (m + n) := by
  unfold Addr.add
  by_cases h : m = 0
  · subst h; simp
  · by_cases h2 : n = 0
    · subst h2; simp
    · rw [if_neg h, if_neg h2, if_neg (by omega)]; simp [Nat.add_assoc]
theorem Prts.cutTake {w : World} {B : Nat} {A : Option Addr} {n c : Nat} {l : List Prt} (h : Prts w B (.slice A n c) l) {i : Nat} (hi : i ≤ l.length) : Prts w B (.slice A i c) (l.take i) := by
  obtain ⟨A, c', e, e0, ez, eo, f⟩ := h
  injection e with e1 e2 e3
  subst e1 e2 e3
  have hlen : (l.take i).length = i := by rw [List.length_take]; omega
  refine ⟨_, _, by rw [hlen], by omega, ez, fun x hx => eo x (List.mem_of_mem_take hx), fun k hk => ?_⟩
  obtain ⟨a', e1, e2, e3⟩ := f k (by omega)
  exact ⟨a', e1, e2, by rw [List.getElem_take]; exact e3⟩
theorem Prts.cutDrop {w : World} {B : Nat} {a : Addr} {n c : Nat} {l : List Prt} (h : Prts w B (.slice (some a) n c) l) {i : Nat} (hi : i ≤ l.length) : Prts w B (.slice (some (a.add (i * 2))) (l.length - i) (c - i)) (l.drop i) := by
  obtain ⟨A, c', e, e0, ez, eo, f⟩ := h
  injection e with e1 e2 e3
  subst e1 e2 e3
  have hlen : (l.drop i).length = l.length - i := by rw [List.length_drop]
  refine ⟨_, _, by rw [hlen], by omega, (by simp), fun x hx => eo x (List.mem_of_mem_drop hx), fun k hk => ?_⟩
  rw [hlen] at hk
  obtain ⟨a', e1, e2, e3⟩ := f (i + k) (by omega)
  injection e1 with e1
  subst e1
  refine ⟨_, rfl, by rw [add_block]; exact e2, ?_⟩
  rw [add_addP, List.getElem_drop, ← Nat.add_mul]; exact e3
theorem Prts.cutEnd {w : World} {B : Nat} {A : Option Addr} {l : List Prt} (hl : l = []) : Prts w B (.slice A 0 0) l := by
  subst hl
  exact ⟨_, _, rfl, Nat.le_refl _, fun _ => rfl, by simp, fun k h => absurd h (by simp)⟩
set_option maxHeartbeats 2000000 in
theorem growP_nil (n : Nat) (w : World) (hn : n ≤ 4000) :
    Calls Try.prog 73 #[.slice none 0 0, .int .i64 (n : Nat)] w fun e w' => ∃ v', e = .returned v' ∧ OwnP w.heap.size w' v' [] ∧ Q w w' := by
  obtain ⟨i0, hi, hz0, hz1, hz2⟩ := info_parts info_part
  by_cases h0 : n = 0
  · subst h0
    go_enter Try.func73, Try.ntmps73
    go_wp2
    go_ret
    exact ⟨_, rfl, OwnP.nil _ _, Q.refl _⟩
  · have h1 : ¬ (n : Int) < 0 := by omega
    have h3 : wrap64 ((n : Int) - 0) = (n : Int) := by unfold wrap64; omega
    have h4 : (0 : Int) < (n : Int) := by omega
    have hrz : ∀ ty, (Builtin.append_ #[71, 3] ty #[.slice none 0 0, .int .i64 (n : Int)]).run Try.prog w = _ := fun ty =>
      Lib.run_append_nil_zeros w 71 3 ty 25 i0 (.agg #[.int .i64 0, .string ⟨#[]⟩]) .i64 .i64 Try.underlying71 Try.underlying3 hi hz0 n (by omega) (by omega) (by omega) (by rw [hz2]; omega)
    have hG := grownCap_le_maxLen w n 0 25 (by unfold maxLen; omega)
    have hGn := grownCap_ge w n 0 25
    obtain ⟨G, hGe⟩ : ∃ G, G = grownCap w n 0 25 := ⟨_, rfl⟩
    rw [← hGe] at hrz hG hGn
    clear hGe
    have hG2 := hG
    unfold maxLen at hG2
    have own : ∀ cur : Array Value, cur.size = G * 2 → OwnP w.heap.size (w.drew.alloc (.cells cur 25)) (.slice (some ⟨w.heap.size, 0, none⟩) 0 G) [] := fun cur hc => World.ownsRow_made w.drew cur G (Nat.le_refl _) hG hc
    have HO := Lib.hid own
    clear own hi hz0 hz1 hz2
    go_enter Try.func73, Try.ntmps73
    go_wp2_with (at_builtin; refine Lib.wpList_append_run _ rfl _ _ _ _ rfl _ _ rfl rfl _ _ (hrz _) ?_)
    go_ret
    refine ⟨_, rfl, HO.out _ ?_, ((Q.refl w).drew).alloc _⟩
    simp [Builtin.zeroCells, Value.cells]; omega
/-- The first k of three lists, one behind the other. -/
def cat3 (l m p : List Prt) (k : Nat) : List Prt := if k = 0 then [] else if k = 1 then l else if k = 2 then l ++ m else l ++ m ++ p
set_option maxHeartbeats 8000000 in
theorem concatP_any (g : Nat) (v1 v2 v3 : Value) (l m p : List Prt) (w : World) (h1 : w.cell? ⟨g, 0, none⟩ = some v1) (h2 : w.cell? ⟨g, 1, none⟩ = some v2) (h3 : w.cell? ⟨g, 2, none⟩ = some v3) (hg : g < w.heap.size)
    (t1 : Prts w w.heap.size v1 l) (t2 : Prts w w.heap.size v2 m) (t3 : Prts w w.heap.size v3 p) (hl : l.length ≤ 1000) (hm : m.length ≤ 1000) (hp : p.length ≤ 1000) :
    Calls Try.prog 58 #[.slice (some ⟨g, 0, none⟩) 3 3] w fun e w' => ∃ v', e = .returned v' ∧ OwnP w.heap.size w' v' (l ++ m ++ p) ∧ Q w w' := by
  have T1 := Lib.hid t1
  have T2 := Lib.hid t2
  have T3 := Lib.hid t3
  obtain ⟨A1, c1, rfl⟩ := t1.form
  obtain ⟨A2, c2, rfl⟩ := t2.form
  obtain ⟨A3, c3, rfl⟩ := t3.form
  clear t1 t2 t3
  obtain ⟨ln, hln⟩ : ∃ n, l.length = n := ⟨_, rfl⟩
  obtain ⟨mn, hmn⟩ : ∃ n, m.length = n := ⟨_, rfl⟩
  obtain ⟨pn, hpn⟩ : ∃ n, p.length = n := ⟨_, rfl⟩
  have HL := Lib.hid hln
  have HM := Lib.hid hmn
  have HP := Lib.hid hpn
  rw [hln] at h1 T1 hl
  rw [hmn] at h2 T2 hm
  rw [hpn] at h3 T3 hp
  clear hln hmn hpn
  have G : Hid (∀ b, Calls Try.prog 73 #[.slice none 0 0, .int .i64 ((ln : Int) + (mn : Int) + (pn : Int))] b fun e w' => ∃ v', e = .returned v' ∧ OwnP b.heap.size w' v' [] ∧ Q b w') := Lib.hid (fun b => by
    have := growP_nil (ln + mn + pn) b (by omega)
    rw [Int.natCast_add, Int.natCast_add] at this
    exact this)
  go_enter Try.func58, Try.ntmps58
  go_wp2_with fail
  go_loopw [3, 5, 11] (fun S _ I wr => ∃ k n : Nat, k ≤ 3 ∧ S = .int .i64 n ∧ I = .int .i64 k ∧ n = (if k = 0 then 0 else if k = 1 then ln else if k = 2 then ln + mn else ln + mn + pn) ∧ w = wr) (fun _ _ I _ => 3 - (intOf I).toNat)
  case atStart => exact ⟨0, 0, by omega, rfl, rfl, rfl, rfl⟩
  case round =>
    obtain ⟨k, n, hk, rfl, rfl, hn, rfl⟩ := hrel
    rcases (show k = 0 ∨ k = 1 ∨ k = 2 ∨ k = 3 by omega) with rfl | rfl | rfl | rfl
    · simp only [if_true] at hn
      subst hn
      go_wp2
      go_roundw
      case rel => exact ⟨1, ln, by omega, by first | rfl | simp, rfl, rfl, by first | trivial | rfl⟩
      case measure => simp [intOf]
    · have hn2 : n = ln := by simpa using hn
      subst hn2
      clear hn
      have hw : wrap64 ((n : Int) + (mn : Int)) = (n : Int) + (mn : Int) := by unfold wrap64; omega
      have hp : ¬ ((n : Int) + (mn : Int)) < 0 := by omega
      go_wp2
      go_roundw
      case rel => exact ⟨2, n + mn, by omega, by go_num, rfl, rfl, by first | trivial | rfl⟩
      case measure => simp [intOf]
    · have hn2 : n = ln + mn := by simpa using hn
      clear hn
      have hw : wrap64 ((n : Int) + (pn : Int)) = (n : Int) + (pn : Int) := by unfold wrap64; omega
      have hp : ¬ ((n : Int) + (pn : Int)) < 0 := by omega
      have HN := Lib.hid hn2
      clear hn2
      go_wp2
      go_roundw
      case rel => exact ⟨3, n + pn, by omega, by go_num, rfl, by rw [HN.out]; rfl, by first | trivial | rfl⟩
      case measure => simp [intOf]
    · have hn2 : n = ln + mn + pn := by simpa using hn
      subst hn2
      clear hn
      rw [Int.natCast_add, Int.natCast_add]
      go_wp2_with fail
      refine (G.out _).mono ?_
      rintro e w1 ⟨v', rfl, ho, q1⟩
      go_wp2_with fail
      go_loopw [6, 8, 27] (fun O _ I wr => ∃ k : Nat, k ≤ 3 ∧ I = .int .i64 k ∧ OwnP w.heap.size wr O (cat3 l m p k) ∧ Q w wr) (fun _ _ I _ => 3 - (intOf I).toNat)
      case atStart => exact ⟨0, by omega, rfl, ho, q1⟩
      case round =>
        obtain ⟨k, hk, rfl, ho, q⟩ := hrel
        clear q1
        have d1 : wr.cell? ⟨g, 0, none⟩ = _ := (q.cell (p := ⟨g, 0, none⟩) hg).trans h1
        have d2 : wr.cell? ⟨g, 1, none⟩ = _ := (q.cell (p := ⟨g, 1, none⟩) hg).trans h2
        have d3 : wr.cell? ⟨g, 2, none⟩ = _ := (q.cell (p := ⟨g, 2, none⟩) hg).trans h3
        have hs := q.size
        have hll := HL.out
        have hmm := HM.out
        have hpp := HP.out
        rcases (show k = 0 ∨ k = 1 ∨ k = 2 ∨ k = 3 by omega) with rfl | rfl | rfl | rfl
        · have ho : OwnP w.heap.size wr u6 [] := ho
          have tb := T1.out.below q
          go_wp2_with (at_builtin; refine wpList_append_part _ rfl _ _ 71 Try.underlying71 rfl w.heap.size _ _ [] l rfl rfl ho tb hs ?ha ?_; (case ha => (try simp); omega); intro v2 w2 o2 g2; have b2 := ho.grown q hs g2; clear g2)
          go_roundw
          case rel => exact ⟨1, by omega, rfl, o2, b2⟩
          case measure => simp [intOf]
        · have ho : OwnP w.heap.size wr u6 l := ho
          have tb := T2.out.below q
          go_wp2_with (at_builtin; refine wpList_append_part _ rfl _ _ 71 Try.underlying71 rfl w.heap.size _ _ l m rfl rfl ho tb hs ?ha ?_; (case ha => (try simp); omega); intro v2 w2 o2 g2; have b2 := ho.grown q hs g2; clear g2)
          go_roundw
          case rel => exact ⟨2, by omega, rfl, o2, b2⟩
          case measure => simp [intOf]
        · have ho : OwnP w.heap.size wr u6 (l ++ m) := ho
          have tb := T3.out.below q
          go_wp2_with (at_builtin; refine wpList_append_part _ rfl _ _ 71 Try.underlying71 rfl w.heap.size _ _ (l ++ m) p rfl rfl ho tb hs ?ha ?_; (case ha => (try simp); omega); intro v2 w2 o2 g2; have b2 := ho.grown q hs g2; clear g2)
          go_roundw
          case rel => exact ⟨3, by omega, rfl, o2, b2⟩
          case measure => simp [intOf]
        · have ho : OwnP w.heap.size wr u6 (l ++ m ++ p) := ho
          go_wp2
          go_ret
          exact ⟨_, rfl, ho, q⟩
end Go.Proofs.Ytlahccmlnbdekaa
