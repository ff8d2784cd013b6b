/-
  Contracts of the program's lay, Num, layText, Text, List.
-/
import Derived.Test.YtbilnomafloopaaGreatOct
namespace Go.Proofs.YtbilnomafloopaaGreat
set_option maxRecDepth 100000
open Go.ChangeShapes Go.WideShapes Go.ChangeAt Go.RowKit
set_option linter.unusedVariables false

theorem info_u8 : (Tryz.prog.info? 5).map (fun i => (i.zero, i.size, i.bytes)) = some (some (.int .u8 0), 1, 1) := by kernel_rfl

/-- v is a row of the call's own, from block base on, whose octets are l. -/
def Own (base : Nat) (w : World) (v : Value) (l : List UInt8) : Prop := w.ownsRow base 5 1 v l.length (Lib.byteCells l)
theorem Own.nil (base : Nat) (w : World) : Own base w (.slice none 0 0) [] := World.ownsRow_nil w _ _ _

theorem byte_one (l : List UInt8) (n : Nat) : Lib.byteCells l ++ [Value.int .u8 ((n % 256 : Nat) : Int)] = Lib.byteCells (l ++ [(n % 256).toUInt8]) :=
  (Lib.byteCells_snoc l (by omega)).symm

theorem cell_one (w : World) (x : Value) (t : TypeId) : ∀ j u, [x][j]? = some u → (w.alloc (.cells #[x] t)).cell? ((⟨w.heap.size, 0, none⟩ : Addr).add j) = some u := by
  intro j u hj
  match j, hj with
  | 0, hj => simp at hj; subst hj; simp [Addr.add]
theorem lay_step {base : Nat} {w wr w1 : World} {v v' : Value} {l : List UInt8} {n j m : Nat} (hm : m = n / 256 ^ j) (hb : base ≤ w.heap.size)
    (hown : Own base wr v (l ++ oct n j)) (hbel : Below base w wr) {o : Obj}
    (h1 : w1.ownsRow base 5 1 v' ((l ++ oct n j).length + 1) (Lib.byteCells (l ++ oct n j) ++ [Value.int .u8 ((m : Int) % 256)])) (h2 : (wr.alloc o).grownBy w1 v.ownBlock) :
    Own base w1 v' (l ++ oct n (j + 1)) ∧ Below base w w1 := by
  have hs : base ≤ wr.heap.size := Nat.le_trans hb hbel.size
  refine ⟨?_, (hbel.alloc hs o).grown h2 (by simp; omega) (fun k hk => (World.ownsRow.lt hown k hk).1)⟩
  unfold Own
  rw [oct_snoc, ← hm, ← List.append_assoc, ← byte_one, List.length_append, List.length_singleton]
  have e : (m : Int) % 256 = ((m % 256 : Nat) : Int) := by omega
  rw [e] at h1
  exact h1

set_option maxHeartbeats 1000000 in
theorem lay_any (base : Nat) (v : Value) (l : List UInt8) (n k : Nat) (w : World) (hb : base ≤ w.heap.size) (hl : l.length ≤ 1000000000) (hn : n < 18446744073709551616) (hk : k ≤ 8) (ho : Own base w v l) :
    Calls Tryz.prog 67 #[v, .int .u64 n, .int .i64 k] w fun e w' => ∃ v', e = .returned v' ∧ Own base w' v' (l ++ oct n k) ∧ Below base w w' := by
  obtain ⟨i0, hi, hz0, hz1, hz2⟩ := info_parts info_u8
  go_enter Tryz.func67, Tryz.ntmps67
  go_wp2
  go_loopw [0, 1, 8] (fun v' M i wr => ∃ j m : Nat, j ≤ k ∧ m < 18446744073709551616 ∧ i = .int .i64 j ∧ M = .int .u64 m ∧ Hid (m = n / 256 ^ j) ∧ Own base wr v' (l ++ oct n j) ∧ Below base w wr) (fun _ _ i _ => k - (intOf i).toNat)
  case atStart => exact ⟨0, n, Nat.zero_le _, hn, rfl, rfl, Lib.hid (by simp), by simpa [oct] using ho, Below.refl _ _⟩
  case round =>
    obtain ⟨j, m, hj, hm, rfl, rfl, HM, hown, hbel⟩ := hrel
    by_cases hlt : j < k
    · have hlen : (l ++ oct n j).length ≤ 1000000008 := by rw [List.length_append, oct_length]; omega
      have hs : base ≤ wr.heap.size := Nat.le_trans hb hbel.size
      go_wp2_with (first | (at_builtin; refine wpList_append_own _ rfl _ _ 124 rfl base 5 i0 (.int .u8 0) 1 1 Tryz.underlying124 hi hz0 hz1 hz2 rfl (by decide) _ _ _ rfl (World.ownsRow.alloc hown _) ⟨wr.heap.size, 0, none⟩ 1 1 [.int .u8 ((m : Int) % 256)] rfl rfl (cell_one _ _ _) (by intro u hu; simp at hu; subst hu; rfl) (by unfold maxLen; omega) (by omega) (by simp; omega) ?_; intro v1 w1 h1 h2 _; have R := lay_step HM.out hb hown hbel h1 h2; clear h1 h2))
      go_roundw
      case rel => exact ⟨j + 1, m / 256, by omega, by omega, by go_num, by go_num, Lib.hid (by rw [HM.out, Nat.div_div_eq_div_mul, Nat.pow_succ]), R.1, R.2⟩
      case measure => simp [intOf]; omega
    · obtain rfl : j = k := by omega
      go_wp2
      go_ret
      exact ⟨_, rfl, hown, hbel⟩

theorem conv_own {base : Nat} {w : World} {v : Value} {l : List UInt8} (h : Own base w v l) (h0 : 0 < l.length) : (convert 124 9 v).run Tryz.prog w = .ok (.string (mk l)) w := by
  rcases h.2 with ⟨-, h1⟩ | ⟨g, cap, cur, rfl, -, -, -, -, -, -⟩
  · omega
  · exact run_convert_bytes_back (P := Tryz.prog) w 124 9 5 ⟨g, 0, none⟩ cap l Tryz.underlying124 Tryz.underlying5 Tryz.underlying9 (fun j hj => World.ownsRow.cells (g := g) h rfl j _ (by simp [Lib.byteCells, hj]))

set_option maxHeartbeats 1000000 in
theorem num_any (n : Nat) (w : World) (hn : n < 18446744073709551616) :
    Calls Tryz.prog 32 #[.int .u64 n] w fun e w' => e = .returned (.string (mk (oct n 8))) ∧ Q w w' := by
  go_enter Tryz.func32, Tryz.ntmps32
  go_wp2_with fail
  refine (lay_any w.heap.size _ [] n 8 w (Nat.le_refl _) (by simp) hn (by omega) (Own.nil _ _)).mono ?_
  rintro e w1 ⟨v1, rfl, ho, hb⟩
  rw [List.nil_append] at ho
  have hc := conv_own ho (by rw [oct_length]; omega)
  go_wp2
  go_ret
  exact ⟨rfl, hb⟩

/-- A text's octets. -/
def tx (s : ByteArray) : List UInt8 := oct s.size 2 ++ bl s
theorem tx_length (s : ByteArray) : (tx s).length = 2 + s.size := by rw [tx, List.length_append, oct_length, bl_length]

set_option maxHeartbeats 1000000 in
theorem layText_any (base : Nat) (v : Value) (l : List UInt8) (s : ByteArray) (w : World) (hb : base ≤ w.heap.size) (hl : l.length ≤ 100000000) (hs : s.size ≤ 5000) (ho : Own base w v l) :
    Calls Tryz.prog 109 #[v, .string s] w fun e w' => ∃ v', e = .returned v' ∧ Own base w' v' (l ++ tx s) ∧ Below base w w' := by
  obtain ⟨i0, hi, hz0, hz1, hz2⟩ := info_parts info_u8
  go_enter Tryz.func109, Tryz.ntmps109
  go_wp2_with fail
  refine (lay_any base v l s.size 2 w hb (by omega) (by omega) (by omega) ho).mono ?_
  rintro e w1 ⟨v1, rfl, ho1, hb1⟩
  have hlen : (l ++ oct s.size 2).length ≤ 100000002 := by rw [List.length_append, oct_length]; omega
  have hs1 : base ≤ w1.heap.size := Nat.le_trans hb hb1.size
  refine Hid.out ?_
  refine Lib.hid ?_
  go_wp2_with (first | (at_builtin; refine Lib.wpList_append_own_string _ rfl _ _ 124 9 rfl base 5 i0 Tryz.underlying124 Tryz.underlying9 hi hz0 hz1 hz2 _ _ _ rfl ho1 s rfl (by unfold maxLen; omega) (by omega) hs1 ?_; intro v2 w2 h1 h2 _))
  go_ret
  refine ⟨v2, rfl, ?_, hb1.grown h2 hs1 (fun k hk => (World.ownsRow.lt ho1 k hk).1)⟩
  unfold Own
  rw [tx, ← List.append_assoc, List.length_append (bs := bl s), bl_length, Lib.byteCells_append]
  exact h1

/-- A list's octets, and whether it may be. -/
def lst (l : List ByteArray) : List UInt8 := oct l.length 2 ++ l.flatMap tx
def okL (l : List ByteArray) : Bool := decide (l.length ≤ 4000) && l.all fun s => decide (s.size ≤ 4000)
theorem okL_iff {l : List ByteArray} : okL l = true ↔ l.length ≤ 4000 ∧ ∀ s ∈ l, s.size ≤ 4000 := by simp [okL]
theorem flat_length (l : List ByteArray) (h : ∀ s ∈ l, s.size ≤ 5000) : (l.flatMap tx).length ≤ l.length * 5002 := by
  induction l with
  | nil => simp
  | cons s r ih =>
    rw [List.flatMap_cons, List.length_append, tx_length, List.length_cons]
    have := ih fun x hx => h x (List.mem_cons_of_mem _ hx)
    have := h s (List.mem_cons_self ..)
    omega
theorem take_flat (l : List ByteArray) (j : Nat) (h : j < l.length) : oct l.length 2 ++ (l.take j).flatMap tx ++ tx l[j] = oct l.length 2 ++ (l.take (j + 1)).flatMap tx := by
  rw [List.take_succ_eq_append_getElem h, List.flatMap_append, List.append_assoc]; simp
/-- What List tells. -/
def lstV (l : List ByteArray) : Value := if okL l then .tuple #[.string (mk (lst l)), .int .i64 0] else .tuple #[.string ⟨#[]⟩, .int .i64 6]
theorem lstV_yes {l : List ByteArray} (h : okL l = true) : lstV l = .tuple #[.string (mk (lst l)), .int .i64 0] := by rw [lstV, if_pos h]
theorem lstV_no {l : List ByteArray} (h : okL l = false) : lstV l = .tuple #[.string ⟨#[]⟩, .int .i64 6] := by rw [lstV, h]; rfl
theorem okL_long {l : List ByteArray} (h : 4000 < l.length) : okL l = false := by
  have : ¬ l.length ≤ 4000 := by omega
  simp [okL, this]
theorem okL_big {l : List ByteArray} {j : Nat} (h : j < l.length) (k : 4000 < l[j].size) : okL l = false := by
  have : ¬ okL l = true := fun e => by have := (okL_iff.1 e).2 l[j] (List.getElem_mem h); omega
  simpa using this
theorem okTo_end {l : List ByteArray} (h : l.length ≤ 4000) (k : ∀ s ∈ l.take l.length, s.size ≤ 4000) : okL l = true := okL_iff.2 ⟨h, by simpa using k⟩
theorem okTo_step {l : List ByteArray} {j : Nat} (h : j < l.length) (k : ∀ s ∈ l.take j, s.size ≤ 4000) (q : l[j].size ≤ 4000) : ∀ s ∈ l.take (j + 1), s.size ≤ 4000 := by
  rw [List.take_succ_eq_append_getElem h]
  intro s hs
  rcases List.mem_append.1 hs with a | a
  · exact k s a
  · rw [List.mem_singleton.1 a]; exact q

set_option maxHeartbeats 1000000 in
theorem list_any (l : List ByteArray) (v : Value) (w : World) (hl : l.length ≤ 1000000) (hs : ∀ s ∈ l, s.size ≤ 5000) (ht : Txts w w.heap.size v l) :
    Calls Tryz.prog 66 #[v] w fun e w' => e = .returned (lstV l) ∧ Q w w' := by
  obtain ⟨A, c, rfl, hcells⟩ := ht
  have HS := Lib.hid hs
  have HC := Lib.hid hcells
  clear hs hcells
  by_cases hlong : 4000 < l.length
  · rw [lstV_no (okL_long hlong)]
    go_enter Tryz.func66, Tryz.ntmps66
    go_wp2
    go_ret2
    exact ⟨rfl, Q.refl _⟩
  · go_enter Tryz.func66, Tryz.ntmps66
    go_wp2_with fail
    refine (lay_any w.heap.size _ [] l.length 2 w (Nat.le_refl _) (by simp) (by omega) (by omega) (Own.nil _ _)).mono ?_
    rintro e w1 ⟨v1, rfl, ho, hb⟩
    go_wp2_with fail
    go_loopw [4, 16] (fun v' i wr => ∃ j : Nat, j ≤ l.length ∧ i = .int .i64 j ∧ Own w.heap.size wr v' (oct l.length 2 ++ (l.take j).flatMap tx) ∧ Below w.heap.size w wr ∧ Hid (∀ s ∈ l.take j, s.size ≤ 4000)) (fun _ i _ => l.length - (intOf i).toNat)
    case atStart => exact ⟨0, Nat.zero_le _, rfl, by simpa using ho, hb, Lib.hid (by simp)⟩
    case round =>
      obtain ⟨j, hj, rfl, hown, hbel, HK⟩ := hrel
      by_cases hlt : j < l.length
      · obtain ⟨a, rfl, ha, hcell⟩ := HC.out j hlt
        have hcell' := (hbel.cell (p := a.add j) (by rw [add_block]; exact ha)).trans hcell
        clear hcell
        obtain ⟨s, hsj⟩ : ∃ s, s = l[j] := ⟨_, rfl⟩
        rw [← hsj] at hcell'
        have h5 : s.size ≤ 5000 := by rw [hsj]; exact HS.out _ (List.getElem_mem hlt)
        have HJ := Lib.hid hsj
        clear hsj
        by_cases hbig : 4000 < s.size
        · have HV := Lib.hid (lstV_no (okL_big hlt (by rw [← HJ.out]; exact hbig)))
          go_wp2_with fail
          go_ret2
          exact ⟨by rw [HV.out]; rfl, hbel⟩
        · have hlen : (oct l.length 2 ++ (l.take j).flatMap tx).length ≤ 100000000 := by
            rw [List.length_append, oct_length]
            have h1 := flat_length (l.take j) (fun x hx => HS.out x (List.mem_of_mem_take hx))
            have h2 : (l.take j).length ≤ 4000 := by rw [List.length_take]; omega
            omega
          go_wp2_with fail
          refine (layText_any w.heap.size _ _ s wr hbel.size hlen h5 hown).mono ?_
          rintro e w2 ⟨v2, rfl, ho2, hb2⟩
          have e1 : oct l.length 2 ++ (l.take j).flatMap tx ++ tx s = oct l.length 2 ++ (l.take (j + 1)).flatMap tx := by rw [HJ.out]; exact take_flat l j hlt
          rw [e1] at ho2
          clear e1
          go_wp2_with fail
          go_roundw
          case rel => exact ⟨j + 1, by omega, by go_num, ho2, hbel.trans hb2, Lib.hid (okTo_step hlt HK.out (by rw [← HJ.out]; omega))⟩
          case measure => simp [intOf]; omega
      · obtain rfl : j = l.length := by omega
        have HV := Lib.hid (lstV_yes (okTo_end (by omega) HK.out))
        rw [List.take_length] at hown
        have hc := conv_own hown (by rw [List.length_append, oct_length]; omega)
        go_wp2
        go_ret2
        exact ⟨by rw [HV.out]; rfl, hbel⟩
end Go.Proofs.YtbilnomafloopaaGreat
