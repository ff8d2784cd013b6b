/-
  Slices of tags, and contracts of the program's Many and the document's.
-/
import Derived.Test.YtlahccmlnbdekaaTRParse
namespace Go.Proofs.Ytlahccmlnbdekaa
open Go.ChangeShapes Go.WideShapes Go.ChangeAt Go.RowKit
set_option linter.unusedVariables false

/-- A slice whose elements are these numbers of 32 bits; all of it lies below block B. -/
def Nums (w : World) (B : Nat) (v : Value) (l : List Nat) : Prop :=
  ∃ A c, v = .slice A l.length c ∧ l.length ≤ c ∧ (A = none → c = 0) ∧ ∀ k (h : k < l.length), ∃ a : Addr, A = some a ∧ a.block < B ∧ l[k] < 4294967296 ∧ w.cell? (a.add k) = some (.int .u32 (l[k] : Nat))
theorem Nums.keep {w w' : World} {B : Nat} {v : Value} {l : List Nat} (h : Nums w B v l) (k : ∀ p : Addr, p.block < B → w'.cell? p = w.cell? p) : Nums w' B v l := by
  obtain ⟨A, c, e, e0, ez, f⟩ := h
  refine ⟨A, c, e, e0, ez, fun i hi => ?_⟩
  obtain ⟨a, e1, e2, e3, e4⟩ := f i hi
  exact ⟨a, e1, e2, e3, (k _ (by rw [add_block]; exact e2)).trans e4⟩
theorem Nums.below {w w' : World} {B : Nat} {v : Value} {l : List Nat} (h : Nums w B v l) (k : Below B w w') : Nums w' B v l := h.keep fun _ hp => k.cell hp
theorem Nums.more {w : World} {B B' : Nat} {v : Value} {l : List Nat} (h : Nums w B v l) (k : B ≤ B') : Nums w B' v l := by
  obtain ⟨A, c, e, e0, ez, f⟩ := h
  refine ⟨A, c, e, e0, ez, fun i hi => ?_⟩
  obtain ⟨a, e1, e2, e3⟩ := f i hi
  exact ⟨a, e1, by omega, e3⟩
theorem Nums.on {w w' : World} {v : Value} {l : List Nat} (h : Nums w w.heap.size v l) (k : Q w w') : Nums w' w'.heap.size v l := (h.below k).more k.size
theorem Nums.nil (w : World) (B : Nat) : Nums w B (.slice none 0 0) [] := ⟨none, 0, rfl, Nat.le_refl _, fun _ => rfl, fun k h => absurd h (by simp)⟩

theorem info_u8 : (Try.prog.info? 5).map (fun i => (i.zero, i.size, i.bytes)) = some (some (.int .u8 0), 1, 1) := by kernel_rfl
/-- v is a row of the call's own, from block base on, whose octets are l. -/
def Own (base : Nat) (w : World) (v : Value) (l : List UInt8) : Prop := w.ownsRow base 5 1 v l.length (Lib.byteCells l)
theorem Own.nil (base : Nat) (w : World) : Own base w (.slice none 0 0) [] := World.ownsRow_nil w _ _ _
theorem conv_own {base : Nat} {w : World} {v : Value} {l : List UInt8} (h : Own base w v l) (h0 : 0 < l.length) : (convert 100 9 v).run Try.prog w = .ok (.string (mk l)) w := by
  rcases h.2 with ⟨-, h1⟩ | ⟨g, cap, cur, rfl, -, -, -, -, -, -⟩
  · omega
  · exact run_convert_bytes_back (P := Try.prog) w 100 9 5 ⟨g, 0, none⟩ cap l Try.underlying100 Try.underlying5 Try.underlying9 (fun j hj => World.ownsRow.cells (g := g) h rfl j _ (by simp [Lib.byteCells, hj]))
theorem oc4_length (t : Nat) : (oc4 t).length = 4 := rfl
theorem flat4_length (l : List Nat) : (l.flatMap oc4).length = 4 * l.length := by
  induction l with
  | nil => rfl
  | cons s r ih => rw [List.flatMap_cons, List.length_append, oc4_length, List.length_cons, ih]; omega
theorem take4 (l : List Nat) (j : Nat) (h : j < l.length) : (l.take j).flatMap oc4 ++ oc4 l[j] = (l.take (j + 1)).flatMap oc4 := by
  rw [List.take_succ_eq_append_getElem h, List.flatMap_append]; simp

/-- A tag's octets as cells, as a walk spells them. -/
def news (m : Nat) : List Value := [.int .u8 ((m : Int) / 16777216), .int .u8 ((m : Int) / 65536 % 256), .int .u8 ((m : Int) / 256 % 256), .int .u8 ((m : Int) % 256)]
theorem news_oc4 {m : Nat} (h : m < 4294967296) : news m = Lib.byteCells (oc4 m) := by
  simp only [news, oc4, Lib.byteCells, List.map_cons, List.map_nil]
  rw [Lib.toUInt8_toNat (by omega), Lib.toUInt8_toNat (by omega), Lib.toUInt8_toNat (by omega), Lib.toUInt8_toNat (by omega)]
  rfl
theorem byte_append (a b : List UInt8) : Lib.byteCells (a ++ b) = Lib.byteCells a ++ Lib.byteCells b := by simp [Lib.byteCells]
theorem cells_four (w : World) (l : List Value) (h : l.length = 4) (t : TypeId) : ∀ j u, l[j]? = some u → (w.alloc (.cells l.toArray t)).cell? ((⟨w.heap.size, 0, none⟩ : Addr).add j) = some u := by
  intro j u hj
  obtain ⟨hj2, rfl⟩ := List.getElem?_eq_some_iff.1 hj
  obtain ⟨x0, x1, x2, x3, rfl⟩ : ∃ a b c d, l = [a, b, c, d] := by
    match l, h with
    | [a, b, c, d], _ => exact ⟨a, b, c, d, rfl⟩
  match j, hj2 with
  | 0, _ => simp [Addr.add]
  | 1, _ => simp [Addr.add]
  | 2, _ => simp [Addr.add]
  | 3, _ => simp [Addr.add]
theorem many_step {base : Nat} {w wr w1 : World} {v v' : Value} {L : List UInt8} {m : Nat} (hm : m < 4294967296) (hb : base ≤ w.heap.size)
    (hown : Own base wr v L) (hbel : Below base w wr) {o : Obj}
    (h1 : w1.ownsRow base 5 1 v' (L.length + 4) (Lib.byteCells L ++ news m)) (h2 : (wr.alloc o).grownBy w1 v.ownBlock) :
    Own base w1 v' (L ++ oc4 m) ∧ Below base w w1 := by
  have hs : base ≤ wr.heap.size := Nat.le_trans hb hbel.size
  refine ⟨?_, (hbel.alloc hs o).grown h2 (by simp; omega) (fun k hk => (World.ownsRow.lt hown k hk).1)⟩
  unfold Own
  rw [byte_append, ← news_oc4 hm, List.length_append, oc4_length]
  exact h1

set_option maxHeartbeats 1000000 in
theorem many_yes (l : List Nat) (v : Value) (w : World) (h1 : 1 ≤ l.length) (h2 : l.length ≤ 100) (ht : Nums w w.heap.size v l) :
    Calls Try.prog 52 #[v] w fun e w' => e = .returned (.tuple #[.string (mk (manyP l)), .int .i64 0]) ∧ Q w w' := by
  obtain ⟨A, c, rfl, -, -, hcells⟩ := ht
  have HC := Lib.hid hcells
  clear hcells
  have M := Lib.hid fun w => isMany_any l.length w
  have hm2 : decide (1 ≤ (l.length : Int) ∧ (l.length : Int) ≤ 100) = true := by simp; omega
  rw [hm2] at M
  clear hm2
  obtain ⟨i0, hi, hz0, hz1, hz2⟩ := info_parts info_u8
  go_enter Try.func52, Try.ntmps52
  go_wp2_with fail
  refine (M.out _).mono ?_
  rintro e w1 ⟨rfl, rfl⟩
  go_wp2_with fail
  go_loopw [4, 13] (fun v' i wr => ∃ j : Nat, j ≤ l.length ∧ i = .int .i64 j ∧ Own w.heap.size wr v' ((l.take j).flatMap oc4) ∧ Below w.heap.size w wr) (fun _ i _ => l.length - (intOf i).toNat)
  case atStart => exact ⟨0, Nat.zero_le _, rfl, Own.nil _ _, Below.refl _ _⟩
  case round =>
    obtain ⟨j, hj, rfl, hown, hbel⟩ := hrel
    by_cases hlt : j < l.length
    · obtain ⟨a, rfl, ha, hm, hcell⟩ := HC.out j hlt
      have hcell' := (hbel.cell (p := a.add j) (by rw [add_block]; exact ha)).trans hcell
      clear hcell
      obtain ⟨m, hmj⟩ : ∃ m, m = l[j] := ⟨_, rfl⟩
      rw [← hmj] at hcell' hm
      have HM : Hid ((l.take j).flatMap oc4 ++ oc4 m = (l.take (j + 1)).flatMap oc4) := Lib.hid (by rw [hmj]; exact take4 l j hlt)
      have hlen : ((l.take j).flatMap oc4).length ≤ 400 := by rw [flat4_length, List.length_take]; omega
      have hs : w.heap.size ≤ wr.heap.size := hbel.size
      clear hmj
      go_wp2_with (first | (at_builtin; refine wpList_append_own _ rfl _ _ 100 rfl w.heap.size 5 i0 (.int .u8 0) 1 1 Try.underlying100 hi hz0 hz1 hz2 rfl (by decide) _ _ _ rfl (World.ownsRow.alloc hown _) ⟨wr.heap.size, 0, none⟩ 4 4 (news m) rfl rfl (cells_four _ (news m) rfl _) (by intro u hu; simp [news] at hu; rcases hu with rfl | rfl | rfl | rfl <;> rfl) (by unfold maxLen; omega) (by omega) (by simp; omega) ?_; intro v1 w1 h1 h2 _; have R := many_step hm (Nat.le_refl _) hown hbel h1 h2; rw [HM.out] at R; clear h1 h2))
      go_roundw
      case rel => exact ⟨j + 1, by omega, by go_num, R.1, R.2⟩
      case measure => simp [intOf]; omega
    · obtain rfl : j = l.length := by omega
      rw [List.take_length] at hown
      have hz : 0 < (l.flatMap oc4).length := by rw [flat4_length]; omega
      have hc := conv_own hown hz
      have hsz : (mk (l.flatMap oc4)).size ≤ 5000 := by rw [mk_size, flat4_length]; omega
      have O := Lib.hid fun w => of_any (mk (l.flatMap oc4)) w hsz
      rw [bl_mk] at O
      have T := Lib.hid fun w => text_any (crc (l.flatMap oc4)) w (crc_lt _)
      have C := Lib.hid fun w => countText_any l.length w h1 h2
      have HV : Hid (mk (hexk 8 (crc (l.flatMap oc4))) ++ mk (cnt l.length) = mk (manyP l)) := Lib.hid (mk_append _ _)
      have z1 : (mk (hexk 8 (crc (l.flatMap oc4)))).size = 8 := by rw [mk_size, hexk_length]
      have z2 : (mk (cnt l.length)).size ≤ 14 := by rw [mk_size, cnt]; have := digs_len (n := l.length) (by omega); simp; omega
      obtain ⟨x, hx⟩ : ∃ x, x = mk (hexk 8 (crc (l.flatMap oc4))) := ⟨_, rfl⟩
      obtain ⟨y, hy⟩ : ∃ y, y = mk (cnt l.length) := ⟨_, rfl⟩
      rw [← hx] at T HV z1
      rw [← hy] at C HV z2
      clear hx hy hz
      go_wp2_with fail
      refine (O.out _).mono ?_
      rintro e w2 ⟨rfl, rfl⟩
      go_wp2_with fail
      refine (T.out _).mono ?_
      rintro e w3 ⟨rfl, q3⟩
      go_wp2_with fail
      refine (C.out _).mono ?_
      rintro e w4 ⟨rfl, q4⟩
      go_wp2
      go_ret2
      exact ⟨by rw [← HV.out]; rfl, (Q.trans hbel q3).trans q4⟩
set_option maxHeartbeats 1000000 in
theorem many_no (l : List Nat) (v : Value) (w : World) (h : ¬ (1 ≤ l.length ∧ l.length ≤ 100)) (h2 : l.length ≤ 1000) (ht : Nums w w.heap.size v l) :
    Calls Try.prog 52 #[v] w fun e w' => e = .returned (.tuple #[.string ⟨#[]⟩, .int .i64 1]) ∧ Q w w' := by
  obtain ⟨A, c, rfl, -, -, -⟩ := ht
  have M := Lib.hid fun w => isMany_any l.length w
  have hm2 : decide (1 ≤ (l.length : Int) ∧ (l.length : Int) ≤ 100) = false := by simp; omega
  rw [hm2] at M
  clear hm2 h
  go_enter Try.func52, Try.ntmps52
  go_wp2_with fail
  refine (M.out _).mono ?_
  rintro e w1 ⟨rfl, rfl⟩
  go_wp2
  go_ret2
  exact ⟨rfl, Q.refl _⟩
end Go.Proofs.Ytlahccmlnbdekaa
