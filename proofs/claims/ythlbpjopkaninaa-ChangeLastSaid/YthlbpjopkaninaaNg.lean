/-
  Contracts of the program's lay, Num, layText, Text, List. Contracts of the program's TakeList (and its closure) and Whole. Plain facts: what is laid is taken as it was; a beginning of it is too short. Plain facts on records: a note's four texts, a record's octets, the notes that octets are. Contracts of the document's Num, Count, Text, List, TakeNum, count, TakeText, TakeList, Same.
-/
import Derived.Test.YthlbpjopkaninaaNf
import Derived.Test.YthlbpjopkaninaaNc
namespace Go.Proofs.Ythlbpjopkaninaa
set_option maxRecDepth 100000
open Go.ChangeShapes Go.WideShapes Go.ChangeAt Go.RowKit
set_option linter.unusedVariables false
theorem info_u8Z : (Try.prog.info? 5).map (fun i => (i.zero, i.size, i.bytes)) = some (some (.int .u8 0), 1, 1) := by kernel_rfl
/-- v is a row of the call's own, from block base on, whose octets are l. -/
def OwnZ (base : Nat) (w : World) (v : Value) (l : List UInt8) : Prop := w.ownsRow base 5 1 v l.length (Lib.byteCells l)
theorem OwnZ.nil (base : Nat) (w : World) : OwnZ base w (.slice none 0 0) [] := World.ownsRow_nil w _ _ _
theorem byte_one (l : List UInt8) (n : Nat) : Lib.byteCells l ++ [Value.int .u8 ((n % 256 : Nat) : Int)] = Lib.byteCells (l ++ [(n % 256).toUInt8]) :=
  (Lib.byteCells_snoc l (by omega)).symm
theorem cell_oneZ (w : World) (x : Value) (t : TypeId) : ∀ j u, [x][j]? = some u → (w.alloc (.cells #[x] t)).cell? ((⟨w.heap.size, 0, none⟩ : Addr).add j) = some u := by
  intro j u hj
  match j, hj with
  | 0, hj => simp at hj; subst hj; simp [Addr.add]
theorem lay_step {base : Nat} {w wr w1 : World} {v v' : Value} {l : List UInt8} {n j m : Nat} (hm : m = n / 256 ^ j) (hb : base ≤ w.heap.size)
    (hown : OwnZ base wr v (l ++ oct n j)) (hbel : Below base w wr) {o : Obj}
    (h1 : w1.ownsRow base 5 1 v' ((l ++ oct n j).length + 1) (Lib.byteCells (l ++ oct n j) ++ [Value.int .u8 ((m : Int) % 256)])) (h2 : (wr.alloc o).grownBy w1 v.ownBlock) :
    OwnZ base w1 v' (l ++ oct n (j + 1)) ∧ Below base w w1 := by
  have hs : base ≤ wr.heap.size := Nat.le_trans hb hbel.size
  refine ⟨?_, (hbel.alloc hs o).grown h2 (by simp; omega) (fun k hk => (World.ownsRow.lt hown k hk).1)⟩
  unfold OwnZ
  rw [oct_snoc, ← hm, ← List.append_assoc, ← byte_one, List.length_append, List.length_singleton]
  have e : (m : Int) % 256 = ((m % 256 : Nat) : Int) := by omega
  rw [e] at h1
  exact h1
set_option maxHeartbeats 1000000 in
theorem lay_any (base : Nat) (v : Value) (l : List UInt8) (n k : Nat) (w : World) (hb : base ≤ w.heap.size) (hl : l.length ≤ 1000000000) (hn : n < 18446744073709551616) (hk : k ≤ 8) (ho : OwnZ base w v l) :
    Calls Try.prog 49 #[v, .int .u64 n, .int .i64 k] w fun e w' => ∃ v', e = .returned v' ∧ OwnZ base w' v' (l ++ oct n k) ∧ Below base w w' := by
  obtain ⟨i0, hi, hz0, hz1, hz2⟩ := info_parts info_u8Z
  go_enter Try.func49, Try.ntmps49
  go_wp2
  go_loopw [0, 1, 8] (fun v' M i wr => ∃ j m : Nat, j ≤ k ∧ m < 18446744073709551616 ∧ i = .int .i64 j ∧ M = .int .u64 m ∧ Hid (m = n / 256 ^ j) ∧ OwnZ base wr v' (l ++ oct n j) ∧ Below base w wr) (fun _ _ i _ => k - (intOf i).toNat)
  case atStart => exact ⟨0, n, Nat.zero_le _, hn, rfl, rfl, Lib.hid (by simp), by simpa [oct] using ho, Below.refl _ _⟩
  case round =>
    obtain ⟨j, m, hj, hm, rfl, rfl, HM, hown, hbel⟩ := hrel
    by_cases hlt : j < k
    · have hlen : (l ++ oct n j).length ≤ 1000000008 := by rw [List.length_append, oct_length]; omega
      have hs : base ≤ wr.heap.size := Nat.le_trans hb hbel.size
      go_wp2_with (first | (at_builtin; refine wpList_append_own _ rfl _ _ 81 rfl base 5 i0 (.int .u8 0) 1 1 Try.underlying81 hi hz0 hz1 hz2 rfl (by decide) _ _ _ rfl (World.ownsRow.alloc hown _) ⟨wr.heap.size, 0, none⟩ 1 1 [.int .u8 ((m : Int) % 256)] rfl rfl (cell_oneZ _ _ _) (by intro u hu; simp at hu; subst hu; rfl) (by unfold maxLen; omega) (by omega) (by simp; omega) ?_; intro v1 w1 h1 h2 _; have R := lay_step HM.out hb hown hbel h1 h2; clear h1 h2))
      go_roundw
      case rel => exact ⟨j + 1, m / 256, by omega, by omega, by go_num, by go_num, Lib.hid (by rw [HM.out, Nat.div_div_eq_div_mul, Nat.pow_succ]), R.1, R.2⟩
      case measure => simp [intOf]; omega
    · obtain rfl : j = k := by omega
      go_wp2
      go_ret
      exact ⟨_, rfl, hown, hbel⟩
theorem conv_ownZ {base : Nat} {w : World} {v : Value} {l : List UInt8} (h : OwnZ base w v l) (h0 : 0 < l.length) : (convert 81 9 v).run Try.prog w = .ok (.string (mk l)) w := by
  rcases h.2 with ⟨-, h1⟩ | ⟨g, cap, cur, rfl, -, -, -, -, -, -⟩
  · omega
  · exact run_convert_bytes_back (P := Try.prog) w 81 9 5 ⟨g, 0, none⟩ cap l Try.underlying81 Try.underlying5 Try.underlying9 (fun j hj => World.ownsRow.cells (g := g) h rfl j _ (by simp [Lib.byteCells, hj]))
set_option maxHeartbeats 1000000 in
theorem num_any (n : Nat) (w : World) (hn : n < 18446744073709551616) :
    Calls Try.prog 47 #[.int .u64 n] w fun e w' => e = .returned (.string (mk (oct n 8))) ∧ Q w w' := by
  go_enter Try.func47, Try.ntmps47
  go_wp2_with fail
  refine (lay_any w.heap.size _ [] n 8 w (Nat.le_refl _) (by simp) hn (by omega) (OwnZ.nil _ _)).mono ?_
  rintro e w1 ⟨v1, rfl, ho, hb⟩
  rw [List.nil_append] at ho
  have hc := conv_ownZ ho (by rw [oct_length]; omega)
  go_wp2
  go_ret
  exact ⟨rfl, hb⟩
/-- A text's octets. -/
def tx (s : ByteArray) : List UInt8 := oct s.size 2 ++ bl s
theorem tx_length (s : ByteArray) : (tx s).length = 2 + s.size := by rw [tx, List.length_append, oct_length, bl_length]
set_option maxHeartbeats 1000000 in
theorem layText_any (base : Nat) (v : Value) (l : List UInt8) (s : ByteArray) (w : World) (hb : base ≤ w.heap.size) (hl : l.length ≤ 100000000) (hs : s.size ≤ 5000) (ho : OwnZ base w v l) :
    Calls Try.prog 50 #[v, .string s] w fun e w' => ∃ v', e = .returned v' ∧ OwnZ base w' v' (l ++ tx s) ∧ Below base w w' := by
  obtain ⟨i0, hi, hz0, hz1, hz2⟩ := info_parts info_u8Z
  go_enter Try.func50, Try.ntmps50
  go_wp2_with fail
  refine (lay_any base v l s.size 2 w hb (by omega) (by omega) (by omega) ho).mono ?_
  rintro e w1 ⟨v1, rfl, ho1, hb1⟩
  have hlen : (l ++ oct s.size 2).length ≤ 100000002 := by rw [List.length_append, oct_length]; omega
  have hs1 : base ≤ w1.heap.size := Nat.le_trans hb hb1.size
  refine Hid.out ?_
  refine Lib.hid ?_
  go_wp2_with (first | (at_builtin; refine Lib.wpList_append_own_string _ rfl _ _ 81 9 rfl base 5 i0 Try.underlying81 Try.underlying9 hi hz0 hz1 hz2 _ _ _ rfl ho1 s rfl (by unfold maxLen; omega) (by omega) hs1 ?_; intro v2 w2 h1 h2 _))
  go_ret
  refine ⟨v2, rfl, ?_, hb1.grown h2 hs1 (fun k hk => (World.ownsRow.lt ho1 k hk).1)⟩
  unfold OwnZ
  rw [tx, ← List.append_assoc, List.length_append (bs := bl s), bl_length, Lib.byteCells_append]
  exact h1
/-- A list's octets, and whether it may be. -/
def lst (l : List ByteArray) : List UInt8 := oct l.length 2 ++ l.flatMap tx
def okLZ (l : List ByteArray) : Bool := decide (l.length ≤ 4000) && l.all fun s => decide (s.size ≤ 4000)
theorem okL_iffZ {l : List ByteArray} : okLZ l = true ↔ l.length ≤ 4000 ∧ ∀ s ∈ l, s.size ≤ 4000 := by simp [okLZ]
theorem flat_length (l : List ByteArray) (h : ∀ s ∈ l, s.size ≤ 5000) : (l.flatMap tx).length ≤ l.length * 5002 := by
  induction l with
  | nil => simp
  | cons s r ih =>
    rw [List.flatMap_cons, List.length_append, tx_length, List.length_cons]
    have := ih fun x hx => h x (List.mem_cons_of_mem _ hx)
    have := h s (List.mem_cons_self ..)
    omega
theorem take_flat (l : List ByteArray) (j : Nat) (h : j < l.length) : oct l.length 2 ++ (l.take j).flatMap tx ++ tx l[j] = oct l.length 2 ++ (l.take (j + 1)).flatMap tx := by
  rw [List.take_succ_eq_append_getElem h, List.flatMap_append, List.append_assoc]; simp
/-- What List tells. -/
def lstV (l : List ByteArray) : Value := if okLZ l then .tuple #[.string (mk (lst l)), .int .i64 0] else .tuple #[.string ⟨#[]⟩, .int .i64 6]
theorem lstV_yes {l : List ByteArray} (h : okLZ l = true) : lstV l = .tuple #[.string (mk (lst l)), .int .i64 0] := by rw [lstV, if_pos h]
theorem lstV_no {l : List ByteArray} (h : okLZ l = false) : lstV l = .tuple #[.string ⟨#[]⟩, .int .i64 6] := by rw [lstV, h]; rfl
theorem okL_long {l : List ByteArray} (h : 4000 < l.length) : okLZ l = false := by
  have : ¬ l.length ≤ 4000 := by omega
  simp [okLZ, this]
theorem okL_big {l : List ByteArray} {j : Nat} (h : j < l.length) (k : 4000 < l[j].size) : okLZ l = false := by
  have : ¬ okLZ l = true := fun e => by have := (okL_iffZ.1 e).2 l[j] (List.getElem_mem h); omega
  simpa using this
theorem okTo_endZ {l : List ByteArray} (h : l.length ≤ 4000) (k : ∀ s ∈ l.take l.length, s.size ≤ 4000) : okLZ l = true := okL_iffZ.2 ⟨h, by simpa using k⟩
theorem okTo_step {l : List ByteArray} {j : Nat} (h : j < l.length) (k : ∀ s ∈ l.take j, s.size ≤ 4000) (q : l[j].size ≤ 4000) : ∀ s ∈ l.take (j + 1), s.size ≤ 4000 := by
  rw [List.take_succ_eq_append_getElem h]
  intro s hs
  rcases List.mem_append.1 hs with a | a
  · exact k s a
  · rw [List.mem_singleton.1 a]; exact q
set_option maxHeartbeats 1000000 in
theorem list_any (l : List ByteArray) (v : Value) (w : World) (hl : l.length ≤ 1000000) (hs : ∀ s ∈ l, s.size ≤ 5000) (ht : Txts w w.heap.size v l) :
    Calls Try.prog 33 #[v] w fun e w' => e = .returned (lstV l) ∧ Q w w' := by
  obtain ⟨A, c, rfl, hcells⟩ := ht
  have HS := Lib.hid hs
  have HC := Lib.hid hcells
  clear hs hcells
  by_cases hlong : 4000 < l.length
  · rw [lstV_no (okL_long hlong)]
    go_enter Try.func33, Try.ntmps33
    go_wp2
    go_ret2
    exact ⟨rfl, Q.refl _⟩
  · go_enter Try.func33, Try.ntmps33
    go_wp2_with fail
    refine (lay_any w.heap.size _ [] l.length 2 w (Nat.le_refl _) (by simp) (by omega) (by omega) (OwnZ.nil _ _)).mono ?_
    rintro e w1 ⟨v1, rfl, ho, hb⟩
    go_wp2_with fail
    go_loopw [4, 16] (fun v' i wr => ∃ j : Nat, j ≤ l.length ∧ i = .int .i64 j ∧ OwnZ w.heap.size wr v' (oct l.length 2 ++ (l.take j).flatMap tx) ∧ Below w.heap.size w wr ∧ Hid (∀ s ∈ l.take j, s.size ≤ 4000)) (fun _ i _ => l.length - (intOf i).toNat)
    case atStart => exact ⟨0, Nat.zero_le _, rfl, by simpa using ho, hb, Lib.hid (by simp)⟩
    case round =>
      obtain ⟨j, hj, rfl, hown, hbel, HK⟩ := hrel
      by_cases hlt : j < l.length
      · obtain ⟨a, rfl, ha, hcell⟩ := HC.out j hlt
        have hcell' := (hbel.cell (p := a.add j) (by rw [add_block]; exact ha)).trans hcell
        clear hcell
        obtain ⟨s, hsj⟩ : ∃ s, s = l[j] := ⟨_, rfl⟩
        rw [← hsj] at hcell'
        have h5 : s.size ≤ 5000 := by rw [hsj]; exact HS.out _ (List.getElem_mem hlt)
        have HJ := Lib.hid hsj
        clear hsj
        by_cases hbig : 4000 < s.size
        · have HV := Lib.hid (lstV_no (okL_big hlt (by rw [← HJ.out]; exact hbig)))
          go_wp2_with fail
          go_ret2
          exact ⟨by rw [HV.out]; rfl, hbel⟩
        · have hlen : (oct l.length 2 ++ (l.take j).flatMap tx).length ≤ 100000000 := by
            rw [List.length_append, oct_length]
            have h1 := flat_length (l.take j) (fun x hx => HS.out x (List.mem_of_mem_take hx))
            have h2 : (l.take j).length ≤ 4000 := by rw [List.length_take]; omega
            omega
          go_wp2_with fail
          refine (layText_any w.heap.size _ _ s wr hbel.size hlen h5 hown).mono ?_
          rintro e w2 ⟨v2, rfl, ho2, hb2⟩
          have e1 : oct l.length 2 ++ (l.take j).flatMap tx ++ tx s = oct l.length 2 ++ (l.take (j + 1)).flatMap tx := by rw [HJ.out]; exact take_flat l j hlt
          rw [e1] at ho2
          clear e1
          go_wp2_with fail
          go_roundw
          case rel => exact ⟨j + 1, by omega, by go_num, ho2, hbel.trans hb2, Lib.hid (okTo_step hlt HK.out (by rw [← HJ.out]; omega))⟩
          case measure => simp [intOf]; omega
      · obtain rfl : j = l.length := by omega
        have HV := Lib.hid (lstV_yes (okTo_endZ (by omega) HK.out))
        rw [List.take_length] at hown
        have hc := conv_ownZ hown (by rw [List.length_append, oct_length]; omega)
        go_wp2
        go_ret2
        exact ⟨by rw [HV.out]; rfl, hbel⟩
end Go.Proofs.Ythlbpjopkaninaa

namespace Go.Proofs.Ythlbpjopkaninaa
set_option maxRecDepth 100000
open Go.ChangeShapes Go.WideShapes Go.ChangeAt Go.RowKit
set_option linter.unusedVariables false
theorem info_str : (Try.prog.info? 9).map (fun i => (i.zero, i.size, i.bytes)) = some (some (.string ⟨#[]⟩), 1, 16) := by kernel_rfl
/-- What a round of the closure finds: the rest in one block, the list in another one. -/
def Inv (B g1 g2 : Nat) (w : World) (l : List ByteArray) (r : ByteArray) : Prop :=
  ∃ v, w.heap[g1]? = some (.cells #[.string r] 9 (0, 0)) ∧ w.heap[g2]? = some (.cells #[v] 59 (0, 0)) ∧ w.ownsRow (g2 + 1) 9 1 v l.length (l.map Value.string) ∧ B ≤ g1 ∧ g1 < g2
theorem Inv.on {B g1 g2 : Nat} {w w' : World} {l : List ByteArray} {r : ByteArray} (h : Inv B g1 g2 w l r) (q : Q w w') : Inv B g1 g2 w' l r := by
  obtain ⟨v, h1, h2, h3, h4, h5⟩ := h
  have l2 := lt_of_block h2
  refine ⟨v, (q.block g1 (by omega)).trans h1, (q.block g2 l2).trans h2, ?_, h4, h5⟩
  rcases h3.2 with ⟨rfl, h0⟩ | ⟨g, cap, cur, rfl, hb, hg, h6⟩
  · exact ⟨h3.1, .inl ⟨rfl, h0⟩⟩
  · exact ⟨h3.1, .inr ⟨g, cap, cur, rfl, hb, (q.block g (lt_of_block hg)).trans hg, h6⟩⟩
theorem own_form {w : World} {base : Nat} {e : TypeId} {v : Value} {n : Nat} {xs : List Value} (h : w.ownsRow base e 1 v (n + 1) xs) : ∃ g cap, v = .slice (some ⟨g, 0, none⟩) (n + 1) cap := by
  rcases h.2 with ⟨-, h0⟩ | ⟨g, cap, cur, rfl, -⟩
  · omega
  · exact ⟨g, cap, rfl⟩
theorem inv_step {B g1 g2 : Nat} {w1 w2 : World} {l : List ByteArray} {x b : ByteArray} {v v1 : Value} {o : Obj} {r : ByteArray}
    (h1 : w1.heap[g1]? = some (.cells #[.string r] 9 (0, 0))) (h2 : w1.heap[g2]? = some (.cells #[v] 59 (0, 0))) (h3 : w1.ownsRow (g2 + 1) 9 1 v l.length (l.map Value.string)) (h4 : B ≤ g1) (h5 : g1 < g2)
    (ho : w2.ownsRow (g2 + 1) 9 1 v1 (l.length + 1) (l.map Value.string ++ [Value.string x])) (hg : (w1.alloc o).grownBy w2 v.ownBlock) :
    (w2.heap[g1]? = some (.cells #[.string r] 9 (0, 0)) ∧ w2.heap[g2]? = some (.cells #[v] 59 (0, 0))) ∧
    Inv B g1 g2 ((w2.setCell ⟨g2, 0, none⟩ v1).setCell ⟨g1, 0, none⟩ (.string b)) (l ++ [x]) b ∧ Below B w1 ((w2.setCell ⟨g2, 0, none⟩ v1).setCell ⟨g1, 0, none⟩ (.string b)) := by
  have l1 := lt_of_block h1
  have l2 := lt_of_block h2
  have hrow : ∀ k, v.ownBlock = some k → g2 + 1 ≤ k := fun k hk => (World.ownsRow.lt h3 k hk).1
  have k1 : w2.heap[g1]? = some (.cells #[.string r] 9 (0, 0)) := (hg.block g1 (by simp; omega) (fun e => by have := hrow g1 e.symm; omega)).trans ((Below.heap_alloc w1 o g1 l1).trans h1)
  have k2 : w2.heap[g2]? = some (.cells #[v] 59 (0, 0)) := (hg.block g2 (by simp; omega) (fun e => by have := hrow g2 e.symm; omega)).trans ((Below.heap_alloc w1 o g2 l2).trans h2)
  refine ⟨⟨k1, k2⟩, ⟨v1, ?_, ?_, ?_, h4, h5⟩, ?_⟩
  · exact one_setCell ((Below.heap_setCell w2 ⟨g2, 0, none⟩ v1 g1 (by simp; omega)).trans k1)
  · exact (Below.heap_setCell _ ⟨g1, 0, none⟩ _ g2 (by simp; omega)).trans (one_setCell k2)
  · rw [List.length_append, List.length_singleton, List.map_append, List.map_singleton]
    exact ownsRow_setCell_below (ownsRow_setCell_below ho (by simp) v1) (by simp; omega) _
  · have b0 : Below B w1 w2 := ((Below.refl B w1).alloc (by omega) o).grown hg (by simp; omega) (fun k hk => by have := hrow k hk; omega)
    exact (b0.setCell (p := ⟨g2, 0, none⟩) (by simp; omega) v1).setCell (p := ⟨g1, 0, none⟩) (by simpa using h4) _
set_option maxHeartbeats 1000000 in
theorem next_bad (B g1 g2 : Nat) (l : List ByteArray) (r : ByteArray) (w : World) (hr : r.size ≤ 1000000000) (hi : Inv B g1 g2 w l r) {x b : ByteArray} {f : Nat} (h : tt r = (x, b, f)) (hf : 0 < f) :
    Calls Try.prog 63 #[.pointer (some ⟨g1, 0, none⟩), .pointer (some ⟨g2, 0, none⟩)] w fun e w' => e = .returned (.int .i64 f) ∧ Q w w' := by
  have HT := Lib.hid h
  clear h
  obtain ⟨v, h1, h2, h3, h4, h5⟩ := hi
  have c1 := cell_of_one h1
  have H1 := Lib.hid h1; have H2 := Lib.hid h2
  clear h1 h2
  have hf' : ¬ f = 0 := by omega
  go_enter Try.func63, Try.ntmps63
  go_wp2_with fail
  refine (takeText_any r w hr HT.out).mono ?_
  rintro e w1 ⟨rfl, q⟩
  go_wp2
  go_ret
  exact ⟨rfl, q⟩
set_option maxHeartbeats 1000000 in
theorem next_good (B g1 g2 : Nat) (l : List ByteArray) (r : ByteArray) (w : World) (hr : r.size ≤ 1000000000) (hl : l.length ≤ 1000000) (hi : Inv B g1 g2 w l r) {x b : ByteArray} (h : tt r = (x, b, 0)) :
    Calls Try.prog 63 #[.pointer (some ⟨g1, 0, none⟩), .pointer (some ⟨g2, 0, none⟩)] w fun e w' => e = .returned (.int .i64 0) ∧ Inv B g1 g2 w' (l ++ [x]) b ∧ Below B w w' := by
  obtain ⟨i0, hi0, hz0, hz1, hz2⟩ := info_parts info_str
  have HT := Lib.hid h
  clear h
  have HI := Lib.hid hi
  have c1 : w.cell? ⟨g1, 0, none⟩ = some (.string r) := by obtain ⟨v, h1, h2, h3, h4, h5⟩ := hi; exact cell_of_one h1
  have hB : B ≤ w.heap.size := by obtain ⟨v, h1, h2, h3, h4, h5⟩ := hi; have := lt_of_block h1; omega
  clear hi
  go_enter Try.func63, Try.ntmps63
  go_wp2_with fail
  refine (takeText_any r w hr HT.out).mono ?_
  rintro e w1 ⟨rfl, q⟩
  obtain ⟨v, h1, h2, h3, h4, h5⟩ := HI.out.on q
  have c2 := cell_of_one h2
  have l2 := lt_of_block h2
  have H1 := Lib.hid h1; have H2 := Lib.hid h2
  clear h1 h2 c1
  go_wp2_with (first | (at_builtin; refine wpList_append_own _ rfl _ _ 59 rfl (g2 + 1) 9 i0 (.string ⟨#[]⟩) 1 16 Try.underlying59 hi0 hz0 hz1 hz2 rfl (by decide) v l.length (l.map Value.string) rfl (World.ownsRow.alloc h3 _) ⟨w1.heap.size, 0, none⟩ 1 1 [.string x] rfl rfl (cell_oneZ _ _ _) (by intro u hu; simp at hu; subst hu; rfl) (by unfold maxLen; omega) (by omega) (by simp; omega) ?_; intro v1 w2 ho hg _; obtain ⟨gg, cap, rfl⟩ := own_form ho; have R := inv_step (b := b) H1.out H2.out h3 h4 h5 ho hg; have RR := Lib.hid R.2; have d1 := cell_of_one R.1.2; have d2 := free_of_one R.1.2; have d3 := cell_of_one ((Below.heap_setCell w2 ⟨g2, 0, none⟩ (.slice (some ⟨gg, 0, none⟩) (l.length + 1) cap) g1 (by simp; omega)).trans R.1.1); have d4 := free_of_one ((Below.heap_setCell w2 ⟨g2, 0, none⟩ (.slice (some ⟨gg, 0, none⟩) (l.length + 1) cap) g1 (by simp; omega)).trans R.1.1); clear R ho hg))
  go_ret
  exact ⟨rfl, RR.out.1, (Below.mono q hB).trans RR.out.2⟩
/-- What is taken as so many texts, one behind the other. -/
def tl : Nat → ByteArray → List ByteArray × ByteArray × Nat
  | 0, s => ([], s, 0)
  | k + 1, s => if (tt s).2.2 = 0 then (if (tl k (tt s).2.1).2.2 = 0 then ((tt s).1 :: (tl k (tt s).2.1).1, (tl k (tt s).2.1).2.1, 0) else ([], ⟨#[]⟩, (tl k (tt s).2.1).2.2)) else ([], ⟨#[]⟩, (tt s).2.2)
/-- What is told, if some texts are there already. -/
def ahead (g : List ByteArray) (r : List ByteArray × ByteArray × Nat) : List ByteArray × ByteArray × Nat := if r.2.2 = 0 then (g ++ r.1, r.2.1, 0) else ([], ⟨#[]⟩, r.2.2)
theorem ahead_nil (k : Nat) (s : ByteArray) : ahead [] (tl k s) = tl k s := by
  unfold ahead
  split
  · rename_i h; rw [List.nil_append, ← h]
  · rename_i h
    cases k with
    | zero => exact absurd rfl h
    | succ k =>
      unfold tl at h ⊢
      split
      · rename_i a
        rw [if_pos a] at h
        split
        · rename_i b; rw [if_pos b] at h; exact absurd rfl h
        · rfl
      · rfl
theorem ahead_step {g : List ByteArray} {k : Nat} {s x b : ByteArray} (h : tt s = (x, b, 0)) : ahead g (tl (k + 1) s) = ahead (g ++ [x]) (tl k b) := by
  unfold ahead
  rw [tl, h]
  simp only [if_true]
  by_cases q : (tl k b).2.2 = 0
  · simp [q]
  · simp [q]
theorem ahead_bad {g : List ByteArray} {k : Nat} {s x b : ByteArray} {f : Nat} (h : tt s = (x, b, f)) (hf : ¬ f = 0) : ahead g (tl (k + 1) s) = ([], ⟨#[]⟩, f) := by
  unfold ahead
  rw [tl, h]
  simp [hf]
theorem tt_size (s : ByteArray) : (tt s).2.1.size ≤ s.size := by
  unfold tt
  split
  · exact Nat.zero_le _
  · split
    · exact Nat.zero_le _
    · split
      · exact Nat.zero_le _
      · rw [size_cut _ (Nat.le_refl _)]; omega
/-- What is taken as a list: it, what is behind, and the error's number. -/
def tls (s : ByteArray) : List ByteArray × ByteArray × Nat := if (tc s).2.2 = 0 then tl (tc s).1 (tc s).2.1 else ([], ⟨#[]⟩, (tc s).2.2)
/-- What TakeList leaves: the list as a slice, and the rest. -/
def TookP (w : World) (r : List ByteArray × ByteArray × Nat) (e : Ending) (w' : World) : Prop :=
  ∃ A n c, e = .returned (.tuple #[.slice A n c, .string r.2.1, .int .i64 (r.2.2 : Nat)]) ∧ Txts w' w'.heap.size (.slice A n c) r.1 ∧ Q w w'
theorem tc_size (s : ByteArray) : (tc s).2.1.size ≤ s.size ∧ (tc s).1 ≤ 4000 := by
  unfold tc
  split
  · exact ⟨Nat.zero_le _, by simp⟩
  · split
    · exact ⟨Nat.zero_le _, by simp⟩
    · rw [size_cut _ (Nat.le_refl _)]; exact ⟨by omega, by simp; omega⟩
theorem own_slice {w : World} {base : Nat} {e : TypeId} {v : Value} {n : Nat} {xs : List Value} (h : w.ownsRow base e 1 v n xs) : ∃ A m c, v = .slice A m c := by
  rcases h.2 with ⟨rfl, h0⟩ | ⟨g, cap, cur, rfl, -⟩
  · exact ⟨_, _, _, rfl⟩
  · exact ⟨_, _, _, rfl⟩
theorem inv_start (w w1 : World) (r : ByteArray) (q : Q w w1) : Inv w.heap.size w1.heap.size (w1.heap.size + 1) ((w1.alloc (Obj.cells #[Value.string r] 9)).alloc (Obj.cells #[Value.slice none 0 0] 59)) [] r ∧
    Below w.heap.size w ((w1.alloc (Obj.cells #[Value.string r] 9)).alloc (Obj.cells #[Value.slice none 0 0] 59)) := by
  refine ⟨⟨.slice none 0 0, ?_, ?_, World.ownsRow_nil _ _ _ _, q.size, by omega⟩, (q.alloc _).alloc _⟩
  · exact (Below.heap_alloc _ _ _ (by simp)).trans (heap_alloc_new w1 _)
  · have := heap_alloc_new (w1.alloc (Obj.cells #[Value.string r] 9)) (Obj.cells #[Value.slice none 0 0] 59)
    simpa using this
/-- The list that octets are, to their end, and the error's number. -/
def whl (s : ByteArray) : List ByteArray × Nat := if (tls s).2.2 = 0 then (if (tls s).2.1.size = 0 then ((tls s).1, 0) else ([], 2)) else ([], (tls s).2.2)
def WholeP (w : World) (r : List ByteArray × Nat) (e : Ending) (w' : World) : Prop :=
  ∃ A n c, e = .returned (.tuple #[.slice A n c, .int .i64 (r.2 : Nat)]) ∧ Txts w' w'.heap.size (.slice A n c) r.1 ∧ Q w w'
theorem nil_of {s : ByteArray} (h : s.size = 0) : s.toList = [] := (nil_text s).2 h
theorem not_nil {s : ByteArray} (h : ¬ s.size = 0) : ¬ s.toList = [] := fun e => h ((nil_text s).1 e)
theorem not_empty {s : ByteArray} (h : ¬ s.size = 0) : (!s.toList.isEmpty) = true := by simp [not_nil h]
end Go.Proofs.Ythlbpjopkaninaa

namespace Go.Proofs.Ythlbpjopkaninaa
set_option maxRecDepth 100000
open Go.ChangeShapes Go.WideShapes Go.ChangeAt Go.RowKit
set_option linter.unusedVariables false
theorem mk_cat (a b : List UInt8) : mk a ++ mk b = mk (a ++ b) := by apply bl_inj; rw [bl_append, bl_mk, bl_mk, bl_mk]
theorem mk_cat' (a : List UInt8) (b : ByteArray) : mk a ++ b = mk (a ++ bl b) := by rw [← mk_bl b, mk_cat, bl_mk]
theorem mk_extract (l : List UInt8) (i j : Nat) : (mk l).extract i j = mk ((l.drop i).take (j - i)) := by apply bl_inj; rw [bl_extract, bl_mk, bl_mk]
theorem tc_oct {n : Nat} (h : n ≤ 4000) (r : List UInt8) : tc (mk (oct n 2 ++ r)) = (n, mk r, 0) := by
  have hl : (oct n 2).length = 2 := oct_length n 2
  have hs : (mk (oct n 2 ++ r)).size = 2 + r.length := by rw [mk_size, List.length_append, hl]
  have hc : cntZ (mk (oct n 2 ++ r)) = n := by
    rw [cntZ, bl_mk, List.take_append_of_le_length (by omega), List.take_of_length_le (by omega), val_oct]; omega
  rw [tc, hc, hs, if_neg (by omega), if_neg (by omega), mk_extract, List.drop_append_of_le_length (by omega), List.drop_of_length_le (by omega), List.nil_append, List.take_of_length_le (by omega)]
theorem tt_of_tc (s : ByteArray) : tt s = if (tc s).2.2 = 0 then (if (tc s).2.1.size < (tc s).1 then (⟨#[]⟩, ⟨#[]⟩, 3) else ((tc s).2.1.extract 0 (tc s).1, (tc s).2.1.extract (tc s).1 (tc s).2.1.size, 0)) else (⟨#[]⟩, ⟨#[]⟩, (tc s).2.2) := by
  unfold tt
  by_cases h2 : s.size < 2
  · rw [if_pos h2, tc, if_pos h2]; rfl
  · rw [if_neg h2, tc, if_neg h2]
    by_cases h4 : 4000 < cntZ s
    · rw [if_pos h4, if_pos h4]; rfl
    · rw [if_neg h4, if_neg h4]
      have hz : (s.extract 2 s.size).size = s.size - 2 := size_cut s (Nat.le_refl _)
      simp only [if_true]
      by_cases h5 : s.size < 2 + cntZ s
      · rw [if_pos h5, if_pos (by rw [hz]; omega)]
      · rw [if_neg h5, if_neg (by rw [hz]; omega), cut_cut, cut_cut, Nat.min_eq_left (by omega), hz, Nat.add_zero]
        congr 2
        congr 1
        omega
theorem tt_oct {n : Nat} (h : n ≤ 4000) (r : List UInt8) : tt (mk (oct n 2 ++ r)) = if r.length < n then (⟨#[]⟩, ⟨#[]⟩, 3) else (mk (r.take n), mk (r.drop n), 0) := by
  rw [tt_of_tc, tc_oct h]
  simp only [if_true, mk_size]
  by_cases q : r.length < n
  · rw [if_pos q, if_pos q]
  · rw [if_neg q, if_neg q, mk_extract, mk_extract, List.drop_zero, Nat.sub_zero]
    congr 3
    exact List.take_of_length_le (by rw [List.length_drop]; omega)
theorem tt_tx {s : ByteArray} (h : s.size ≤ 4000) (b : List UInt8) : tt (mk (tx s ++ b)) = (s, mk b, 0) := by
  rw [tx, List.append_assoc, tt_oct h, if_neg (by rw [List.length_append, bl_length]; omega)]
  have e := bl_length s
  rw [List.take_append_of_le_length (by omega), List.take_of_length_le (by omega), List.drop_append_of_le_length (by omega), List.drop_of_length_le (by omega), List.nil_append, mk_bl]
theorem tl_flat : ∀ (l : List ByteArray) (b : List UInt8), (∀ s ∈ l, s.size ≤ 4000) → tl l.length (mk (l.flatMap tx ++ b)) = (l, mk b, 0)
  | [], b, _ => by simp [tl]
  | s :: r, b, h => by
    rw [List.length_cons, List.flatMap_cons, List.append_assoc, tl, tt_tx (h s (List.mem_cons_self ..)), tl_flat r b fun x hx => h x (List.mem_cons_of_mem _ hx)]
    simp
theorem tls_lst {l : List ByteArray} (h : okLZ l = true) (b : List UInt8) : tls (mk (lst l ++ b)) = (l, mk b, 0) := by
  obtain ⟨h1, h2⟩ := okL_iffZ.1 h
  rw [lst, List.append_assoc, tls, tc_oct h1]
  simp only [if_true]
  exact tl_flat l b h2
theorem tls_all {l : List ByteArray} (h : okLZ l = true) : tls (mk (lst l)) = (l, ⟨#[]⟩, 0) := by
  have := tls_lst h []
  rw [List.append_nil] at this
  exact this
theorem whl_all {l : List ByteArray} (h : okLZ l = true) : whl (mk (lst l)) = (l, 0) := by
  rw [whl, tls_all h]; rfl
theorem tn_num {n : Nat} (h : n < 18446744073709551616) (b : ByteArray) : tn (mk (oct n 8) ++ b) = (n, b, 0) := by
  have hl : (oct n 8).length = 8 := oct_length n 8
  have h8 : (256 : Nat) ^ 8 = 18446744073709551616 := by decide
  rw [mk_cat', tn, mk_size, List.length_append, hl, if_neg (by omega), bl_mk, List.take_append_of_le_length (by omega), List.take_of_length_le (by omega), val_oct, h8, Nat.mod_eq_of_lt h, mk_extract, List.drop_append_of_le_length (by omega), List.drop_of_length_le (by omega), List.nil_append, List.take_of_length_le (by omega), mk_bl]
end Go.Proofs.Ythlbpjopkaninaa

namespace Go.Proofs.Ythlbpjopkaninaa
set_option maxRecDepth 100000
set_option linter.unusedVariables false
set_option linter.unusedSimpArgs false
def gN (g : Bool) : Nat := if g then 1 else 0
/-- A note's texts. -/
def tN (x : Nte) : List ByteArray := [mk (oct x.st 8), x.n, mk (oct (gN x.gone) 8), x.val]
def txN (l : List Nte) : List ByteArray := l.flatMap tN
/-- May it be? -/
def okNt (x : Nte) : Bool := decide (0 < x.st) && (decide (0 < x.n.size) && (decide (x.n.size ≤ 200) && (decide (x.val.size ≤ 4000) && (!x.gone || decide (x.val.size = 0)))))
theorem okNt_iff {x : Nte} : okNt x = true ↔ 0 < x.st ∧ 0 < x.n.size ∧ x.n.size ≤ 200 ∧ x.val.size ≤ 4000 ∧ (x.gone = true → x.val.size = 0) := by
  unfold okNt
  cases x.gone <;> simp
/-- A record's octets, and the error's number. -/
def layV (l : List Nte) : ByteArray × Nat :=
  if l.all okNt = true then (if l.length = 0 ∨ 100 < l.length then (⟨#[]⟩, 1) else if 12000 < (lst (txN l)).length then (⟨#[]⟩, 6) else (mk (lst (txN l)), 0)) else (⟨#[]⟩, 1)
theorem tN_len (x : Nte) : (tN x).length = 4 := rfl
theorem txN_len (l : List Nte) : (txN l).length = l.length * 4 := by
  induction l with
  | nil => rfl
  | cons x r ih => rw [txN, List.flatMap_cons, List.length_append, ← txN, ih, tN_len, List.length_cons]; omega
theorem txN_take (l : List Nte) (i : Nat) (h : i < l.length) : txN (l.take (i + 1)) = txN (l.take i) ++ tN l[i] := by
  unfold txN; rw [List.take_succ_eq_append_getElem h, List.flatMap_append]; simp
theorem txN_size {l : List Nte} (h : ∀ x ∈ l, okNt x = true) : ∀ s ∈ txN l, s.size ≤ 4000 := by
  intro s hs
  obtain ⟨x, hx, hs⟩ := List.mem_flatMap.1 hs
  obtain ⟨h1, h2, h3, h4, h5⟩ := okNt_iff.1 (h x hx)
  simp only [tN, List.mem_cons, List.not_mem_nil, or_false] at hs
  rcases hs with rfl | rfl | rfl | rfl
  · rw [mk_size, oct_length]; omega
  · omega
  · rw [mk_size, oct_length]; omega
  · exact h4
theorem txN_ok {l : List Nte} (h : ∀ x ∈ l, okNt x = true) (hl : l.length ≤ 100) : okLZ (txN l) = true :=
  okL_iffZ.2 ⟨by rw [txN_len]; omega, txN_size h⟩
theorem layV_bad {l : List Nte} {x : Nte} (h : x ∈ l) (k : okNt x = false) : layV l = (⟨#[]⟩, 1) := by
  rw [layV, if_neg]
  intro e
  rw [List.all_eq_true.1 e x h] at k
  cases k
theorem layV_len {l : List Nte} (h : l.length = 0 ∨ 100 < l.length) : layV l = (⟨#[]⟩, 1) := by
  unfold layV
  rw [if_pos h]
  split <;> rfl
theorem layV_big {l : List Nte} (h : ∀ x ∈ l, okNt x = true) (h0 : ¬ (l.length = 0 ∨ 100 < l.length)) (k : 12000 < (lst (txN l)).length) : layV l = (⟨#[]⟩, 6) := by
  rw [layV, if_pos (List.all_eq_true.2 h), if_neg h0, if_pos k]
theorem layV_yes {l : List Nte} (h : ∀ x ∈ l, okNt x = true) (h0 : ¬ (l.length = 0 ∨ 100 < l.length)) (k : ¬ 12000 < (lst (txN l)).length) : layV l = (mk (lst (txN l)), 0) := by
  rw [layV, if_pos (List.all_eq_true.2 h), if_neg h0, if_neg k]
theorem layV_is {l : List Nte} {s : ByteArray} (h : layV l = (s, 0)) : (∀ x ∈ l, okNt x = true) ∧ 0 < l.length ∧ l.length ≤ 100 ∧ (lst (txN l)).length ≤ 12000 ∧ s = mk (lst (txN l)) := by
  unfold layV at h
  split at h
  · rename_i a
    split at h
    · simp at h
    · rename_i b
      split at h
      · simp at h
      · rename_i c
        simp only [Prod.mk.injEq, and_true] at h
        exact ⟨List.all_eq_true.1 a, by omega, by omega, by omega, h.symm⟩
  · simp at h
theorem layV_err (l : List Nte) : (layV l).2 = 0 ∨ ((layV l).2 = 1 ∧ (layV l).1 = ⟨#[]⟩) ∨ ((layV l).2 = 6 ∧ (layV l).1 = ⟨#[]⟩) := by
  unfold layV
  split
  · split
    · exact .inr (.inl ⟨rfl, rfl⟩)
    · split
      · exact .inr (.inr ⟨rfl, rfl⟩)
      · exact .inl rfl
  · exact .inr (.inl ⟨rfl, rfl⟩)
theorem layV_sz (l : List Nte) : (layV l).1.size ≤ 12000 := by
  rcases layV_err l with h | ⟨-, h⟩ | ⟨-, h⟩
  · have h2 : layV l = ((layV l).1, 0) := by rw [← h]
    obtain ⟨-, -, -, h3, h4⟩ := layV_is h2
    rw [h4, mk_size]; exact h3
  · rw [h]; exact Nat.zero_le _
  · rw [h]; exact Nat.zero_le _
/-- The note of four texts. -/
def noteV (a b c d : ByteArray) : Nte := ⟨(tn a).1, b, d, decide (c = mk (oct 1 8))⟩
def noteAt (t : List ByteArray) (i : Nat) : Nte := noteV (t[i * 4]?.getD ⟨#[]⟩) (t[i * 4 + 1]?.getD ⟨#[]⟩) (t[i * 4 + 2]?.getD ⟨#[]⟩) (t[i * 4 + 3]?.getD ⟨#[]⟩)
/-- The notes of texts, as they are read. -/
def rawN (t : List ByteArray) (n : Nat) : List Nte := (List.range n).map (noteAt t)
theorem rawN_len (t : List ByteArray) (n : Nat) : (rawN t n).length = n := by simp [rawN]
theorem rawN_succ (t : List ByteArray) (n : Nat) : rawN t (n + 1) = rawN t n ++ [noteAt t n] := by simp [rawN, List.range_succ]
theorem noteAt_is {t : List ByteArray} {i : Nat} (h : i * 4 + 3 < t.length) : noteAt t i = noteV (t[i * 4]'(by omega)) (t[i * 4 + 1]'(by omega)) (t[i * 4 + 2]'(by omega)) (t[i * 4 + 3]) := by
  unfold noteAt
  rw [List.getElem?_eq_getElem (show i * 4 < t.length by omega), List.getElem?_eq_getElem (show i * 4 + 1 < t.length by omega), List.getElem?_eq_getElem (show i * 4 + 2 < t.length by omega), List.getElem?_eq_getElem h]
  rfl
theorem txN_at (l : List Nte) (i : Nat) (h : i < l.length) {j : Nat} (hj : j < 4) : (txN l)[i * 4 + j]? = (tN l[i])[j]? := by
  induction l generalizing i with
  | nil => simp at h
  | cons x r ih =>
    rw [txN, List.flatMap_cons]
    cases i with
    | zero => rw [List.getElem?_append_left (by rw [tN_len]; omega)]; simp
    | succ i =>
      rw [List.getElem?_append_right (by rw [tN_len]; omega), show (i + 1) * 4 + j - (tN x).length = i * 4 + j by rw [tN_len]; omega]
      exact ih i (by simpa using h)
theorem oct_gone (g : Bool) : decide (mk (oct (gN g) 8) = mk (oct 1 8)) = g := by
  cases g with
  | true => simp [gN]
  | false =>
    have : ¬ mk (oct (gN false) 8) = mk (oct 1 8) := fun e => by
      have e2 : oct 0 8 = oct 1 8 := congrArg bl e
      have := oct_inj (a := 0) (b := 1) (k := 8) (by decide) (by decide) e2
      omega
    simp [this]
theorem noteV_tN {x : Nte} (h : x.st < 18446744073709551616) : noteV (mk (oct x.st 8)) x.n (mk (oct (gN x.gone) 8)) x.val = x := by
  have e := tn_num h ⟨#[]⟩
  have e2 : mk (oct x.st 8) ++ (⟨#[]⟩ : ByteArray) = mk (oct x.st 8) := by apply bl_inj; rw [bl_append]; simp [bl]
  rw [e2] at e
  rw [noteV, e, oct_gone]
theorem rawN_txN {l : List Nte} (h : ∀ x ∈ l, x.st < 18446744073709551616) : rawN (txN l) l.length = l := by
  refine List.ext_getElem (rawN_len _ _) fun i h1 h2 => ?_
  have e : (rawN (txN l) l.length)[i] = noteAt (txN l) i := by simp [rawN]
  have hb := txN_len l
  have k0 := txN_at l i h2 (show 0 < 4 by omega)
  have k1 := txN_at l i h2 (show 1 < 4 by omega)
  have k2 := txN_at l i h2 (show 2 < 4 by omega)
  have k3 := txN_at l i h2 (show 3 < 4 by omega)
  rw [e, noteAt]
  rw [Nat.add_zero] at k0
  rw [k0, k1, k2, k3]
  exact noteV_tN (h _ (List.getElem_mem h2))
/-- The notes that octets are. -/
def takeV (s : ByteArray) : Option (List Nte) :=
  if (whl s).2 = 0 ∧ (whl s).1.length % 4 = 0 ∧ layV (rawN (whl s).1 ((whl s).1.length / 4)) = (s, 0) then some (rawN (whl s).1 ((whl s).1.length / 4)) else none
theorem takeV_err {s : ByteArray} (h : ¬ (whl s).2 = 0) : takeV s = none := by unfold takeV; rw [if_neg]; exact fun e => h e.1
theorem takeV_mod {s : ByteArray} {t : List ByteArray} (h : whl s = (t, 0)) (k : ¬ t.length % 4 = 0) : takeV s = none := by
  unfold takeV; rw [if_neg]; rw [h]; exact fun e => k e.2.1
theorem takeV_no {s : ByteArray} {t : List ByteArray} (h : whl s = (t, 0)) (k : ¬ layV (rawN t (t.length / 4)) = (s, 0)) : takeV s = none := by
  unfold takeV; rw [if_neg]; rw [h]; exact fun e => k e.2.2
theorem takeV_yes {s : ByteArray} {t : List ByteArray} (h : whl s = (t, 0)) (k : t.length % 4 = 0) (g : layV (rawN t (t.length / 4)) = (s, 0)) : takeV s = some (rawN t (t.length / 4)) := by
  unfold takeV; rw [if_pos] <;> rw [h]
  exact ⟨rfl, k, g⟩
theorem tn_bad {a : ByteArray} (h : ¬ (tn a).2.2 = 0) : (tn a).1 = 0 := by
  unfold tn at h ⊢
  split
  · rfl
  · rename_i q; rw [if_neg q] at h; exact absurd rfl h
/-- A stamp that is not laid whole: no record's octets. -/
theorem takeV_stamp {s : ByteArray} {t : List ByteArray} (h : whl s = (t, 0)) {i : Nat} (hi : i < t.length / 4) (k : ¬ (tn (t[i * 4]'(by omega))).2.2 = 0) : takeV s = none := by
  refine takeV_no h fun e => ?_
  have hm : noteAt t i ∈ rawN t (t.length / 4) := List.mem_map.2 ⟨i, List.mem_range.2 hi, rfl⟩
  have h2 := (okNt_iff.1 ((layV_is e).1 _ hm)).1
  rw [noteAt_is (by omega)] at h2
  have := tn_bad k
  simp only [noteV] at h2
  omega
theorem tn_lt (a : ByteArray) : (tn a).1 < 18446744073709551616 := by
  unfold tn
  split
  · simp
  · exact val_lt64 _ (by rw [List.length_take]; omega)
theorem lay_take {l : List Nte} {s : ByteArray} (h : layV l = (s, 0)) (k : ∀ x ∈ l, x.st < 18446744073709551616) : takeV s = some l := by
  obtain ⟨h1, h2, h3, h4, rfl⟩ := layV_is h
  have hw := whl_all (txN_ok h1 h3)
  have hd : (txN l).length / 4 = l.length := by rw [txN_len]; omega
  have hr : rawN (txN l) ((txN l).length / 4) = l := by rw [hd, rawN_txN k]
  rw [takeV_yes hw (by rw [txN_len]; omega) (by rw [hr]; exact h), hr]
theorem tt_sz (s : ByteArray) : (tt s).1.size ≤ 4000 := by
  unfold tt
  split
  · exact Nat.zero_le _
  · split
    · exact Nat.zero_le _
    · split
      · exact Nat.zero_le _
      · rw [size_cut _ (by omega)]; omega
theorem tl_szs : ∀ (k : Nat) (s : ByteArray), (tl k s).1.length ≤ k ∧ ∀ x ∈ (tl k s).1, x.size ≤ 4000
  | 0, s => by simp [tl]
  | k + 1, s => by
    have ih := tl_szs k (tt s).2.1
    rw [tl]
    split
    · split
      · refine ⟨by simpa using ih.1, fun x hx => ?_⟩
        rcases List.mem_cons.1 hx with rfl | hx
        · exact tt_sz s
        · exact ih.2 x hx
      · simp
    · simp
theorem whl_szs (s : ByteArray) : (whl s).1.length ≤ 4000 ∧ ∀ x ∈ (whl s).1, x.size ≤ 4000 := by
  have h0 : (tls s).1.length ≤ 4000 ∧ ∀ x ∈ (tls s).1, x.size ≤ 4000 := by
    unfold tls
    split
    · have := tl_szs (tc s).1 (tc s).2.1
      exact ⟨Nat.le_trans this.1 (tc_size s).2, this.2⟩
    · simp
  unfold whl
  split
  · split
    · exact h0
    · simp
  · simp
theorem rawN_okW {t : List ByteArray} (h : ∀ x ∈ t, x.size ≤ 4000) {n : Nat} (hn : n * 4 ≤ t.length) : ∀ x ∈ rawN t n, okW x := by
  intro x hx
  obtain ⟨i, hi, rfl⟩ := List.mem_map.1 hx
  have hi := List.mem_range.1 hi
  rw [noteAt_is (by omega)]
  exact ⟨tn_lt _, Nat.le_trans (h _ (List.getElem_mem _)) (by unfold Go.maxLen; omega), Nat.le_trans (h _ (List.getElem_mem _)) (by unfold Go.maxLen; omega), trivial⟩
theorem lst_both (a b : List ByteArray) : (lst (a ++ b)).length + 2 = (lst a).length + (lst b).length := by
  simp only [lst, List.length_append, List.flatMap_append, oct_length]; omega
theorem txN_append (a b : List Nte) : txN (a ++ b) = txN a ++ txN b := by unfold txN; rw [List.flatMap_append]
theorem lay_split {l : List Nte} {s : ByteArray} (h : layV l = (s, 0)) {k : Nat} (h0 : 0 < k) (hk : k < l.length) :
    ∃ a b, layV (l.take k) = (a, 0) ∧ layV (l.drop k) = (b, 0) ∧ a.size + b.size = s.size + 2 := by
  obtain ⟨h1, h2, h3, h4, rfl⟩ := layV_is h
  have e := lst_both (txN (l.take k)) (txN (l.drop k))
  rw [← txN_append, List.take_append_drop] at e
  have p1 : 2 ≤ (lst (txN (l.take k))).length := by rw [lst, List.length_append, oct_length]; omega
  have p2 : 2 ≤ (lst (txN (l.drop k))).length := by rw [lst, List.length_append, oct_length]; omega
  refine ⟨_, _, layV_yes (fun x hx => h1 x (List.mem_of_mem_take hx)) (by rw [List.length_take]; omega) (by omega), layV_yes (fun x hx => h1 x (List.mem_of_mem_drop hx)) (by rw [List.length_drop]; omega) (by omega), ?_⟩
  rw [mk_size, mk_size, mk_size]
  omega
end Go.Proofs.Ythlbpjopkaninaa

namespace Go.Proofs.Ythlbpjopkaninaa
set_option maxRecDepth 100000
open Go.ChangeShapes Go.WideShapes Go.ChangeAt Go.RowKit
set_option linter.unusedVariables false
/-- string of a slice of one octet, and of one of two. -/
theorem conv1 (W : World) (a : Addr) (n : Int) (cap : Nat) (h0 : 0 ≤ n) (h1 : n ≤ 255) (h : W.cell? a = some (.int .u8 n)) :
    (convert 81 9 (.slice (some a) 1 cap)).run Try.prog W = .ok (.string (mk [n.toNat.toUInt8])) W := by
  have := run_convert_bytes_back (P := Try.prog) W 81 9 5 a cap [n.toNat.toUInt8] Try.underlying81 Try.underlying5 Try.underlying9 (by
    intro j hj
    obtain rfl : j = 0 := by simp at hj; omega
    have e : ((n.toNat.toUInt8).toNat : Int) = n := by rw [Lib.toUInt8_toNat (by omega)]; omega
    simp only [Addr.add, if_true, List.getElem_cons_zero]
    rw [e]; exact h)
  exact this
theorem conv2 (W : World) (b : Nat) (n m : Int) (cap : Nat) (h0 : 0 ≤ n) (h1 : n ≤ 255) (g0 : 0 ≤ m) (g1 : m ≤ 255) (h : W.cell? ⟨b, 0, none⟩ = some (.int .u8 n)) (g : W.cell? ⟨b, 1, none⟩ = some (.int .u8 m)) :
    (convert 81 9 (.slice (some ⟨b, 0, none⟩) 2 cap)).run Try.prog W = .ok (.string (mk [n.toNat.toUInt8, m.toNat.toUInt8])) W := by
  have := run_convert_bytes_back (P := Try.prog) W 81 9 5 ⟨b, 0, none⟩ cap [n.toNat.toUInt8, m.toNat.toUInt8] Try.underlying81 Try.underlying5 Try.underlying9 (by
    intro j hj
    have e : ((n.toNat.toUInt8).toNat : Int) = n := by rw [Lib.toUInt8_toNat (by omega)]; omega
    have f : ((m.toNat.toUInt8).toNat : Int) = m := by rw [Lib.toUInt8_toNat (by omega)]; omega
    match j, hj with
    | 0, _ => simp only [Addr.add, if_true, List.getElem_cons_zero]; rw [e]; exact h
    | 1, _ => simp only [Addr.add, List.getElem_cons_succ, List.getElem_cons_zero]; rw [f]; exact g)
  exact this
theorem mk_append (a b : List UInt8) : mk a ++ mk b = mk (a ++ b) := by apply bl_inj; rw [bl_append, bl_mk, bl_mk, bl_mk]
theorem oct_step (n j : Nat) : mk (oct n j) ++ mk [(((n / 256 ^ j : Nat) : Int) % 256).toNat.toUInt8] = mk (oct n (j + 1)) := by
  rw [mk_append, oct_snoc]
  have : (((n / 256 ^ j : Nat) : Int) % 256).toNat = n / 256 ^ j % 256 := by omega
  rw [this]
set_option maxHeartbeats 1000000 in
theorem rnum_any (n : Nat) (w : World) (hn : n < 18446744073709551616) :
    Calls Try.prog 34 #[.int .u64 n] w fun e w' => e = .returned (.string (mk (oct n 8))) ∧ Q w w' := by
  go_enter Try.func34, Try.ntmps34
  go_wp2
  go_loopw [0, 3, 4] (fun M S i wr => ∃ (j m : Nat) (t : ByteArray), j ≤ 8 ∧ m < 18446744073709551616 ∧ t.size ≤ 8 ∧ i = .int .i64 j ∧ M = .int .u64 m ∧ S = .string t ∧ Hid (m = n / 256 ^ j) ∧ Hid (t = mk (oct n j)) ∧ Q w wr) (fun _ _ i _ => 8 - (intOf i).toNat)
  case atStart => exact ⟨0, n, ⟨#[]⟩, Nat.zero_le _, hn, Nat.zero_le _, rfl, rfl, rfl, Lib.hid (by simp), Lib.hid rfl, Q.refl _⟩
  case round =>
    obtain ⟨j, m, t, hj, hm, ht, rfl, rfl, rfl, HM, HT, q⟩ := hrel
    by_cases hlt : j < 8
    · have hcv := fun (W : World) (h : W.cell? ⟨wr.heap.size, 0, none⟩ = some (.int .u8 ((m : Int) % 256))) => conv1 W ⟨wr.heap.size, 0, none⟩ ((m : Int) % 256) 1 (by omega) (by omega) h
      have hsz : (mk [((m : Int) % 256).toNat.toUInt8]).size = 1 := rfl
      obtain ⟨c, hc⟩ : ∃ c, c = mk [((m : Int) % 256).toNat.toUInt8] := ⟨_, rfl⟩
      rw [← hc] at hcv hsz
      have hsz' : c.size ≤ 1 := by omega
      have HC := Lib.hid hc
      clear hc hsz
      go_wp2
      go_roundw
      case rel => exact ⟨j + 1, m / 256, _, by omega, by omega, by rw [HT.out, HC.out, HM.out, oct_step, mk_size, oct_length]; omega, by go_num, by go_num, rfl, Lib.hid (by rw [HM.out, Nat.div_div_eq_div_mul, Nat.pow_succ]), Lib.hid (by rw [HT.out, HC.out, HM.out, oct_step]), q.alloc _⟩
      case measure => simp [intOf]; omega
    · obtain rfl : j = 8 := by omega
      go_wp2
      go_ret
      exact ⟨ret_str HT.out, q⟩
theorem oct2 (n : Nat) (h : n < 65536) : oct n 2 = [UInt8.ofNat (n % 256), UInt8.ofNat (n / 256)] := by
  rw [oct, oct, oct, show n / 256 % 256 = n / 256 by omega]
set_option maxHeartbeats 1000000 in
theorem rcountW_any (n : Nat) (w : World) (hn : n < 65536) :
    Calls Try.prog 51 #[.int .i64 n] w fun e w' => e = .returned (.string (mk (oct n 2))) ∧ Q w w' := by
  have HF := Lib.hid (oct2 n hn)
  have hcv := fun (W : World) (h : W.cell? ⟨w.heap.size, 0, none⟩ = some (.int .u8 ((n : Int) % 256))) (g : W.cell? ⟨w.heap.size, 1, none⟩ = some (.int .u8 ((n : Int) / 256))) => conv2 W w.heap.size ((n : Int) % 256) ((n : Int) / 256) 2 (by omega) (by omega) (by omega) (by omega) h g
  go_enter Try.func51, Try.ntmps51
  go_wp2
  go_ret
  exact ⟨ret_str (by rw [HF.out]), (Q.refl _).alloc _⟩
set_option maxHeartbeats 1000000 in
theorem rtext_any (s : ByteArray) (w : World) (hs : s.size ≤ 5000) :
    Calls Try.prog 52 #[.string s] w fun e w' => e = .returned (.string (mk (tx s))) ∧ Q w w' := by
  have hz : (mk (oct s.size 2)).size = 2 := by rw [mk_size, oct_length]
  have HF : Hid (mk (tx s) = mk (oct s.size 2) ++ s) := Lib.hid (by rw [tx, ← mk_append, mk_bl])
  have HC := Lib.hid (rcountW_any s.size w (by omega))
  obtain ⟨c, hc⟩ : ∃ c, c = mk (oct s.size 2) := ⟨_, rfl⟩
  rw [← hc] at hz HF HC
  have hz' : c.size ≤ 2 := by omega
  clear hz hc
  go_enter Try.func52, Try.ntmps52
  go_wp2_with fail
  refine HC.out.mono ?_
  rintro e w1 ⟨rfl, q⟩
  go_wp2
  go_ret
  exact ⟨ret_str HF.out.symm, q⟩
/-- The document's List: a text, and whether it is one. -/
def rlstV (l : List ByteArray) : Value := if okLZ l then .tuple #[.string (mk (lst l)), .bool true] else .tuple #[.string ⟨#[]⟩, .bool false]
theorem rlstV_yes {l : List ByteArray} (h : okLZ l = true) : rlstV l = .tuple #[.string (mk (lst l)), .bool true] := by rw [rlstV, if_pos h]
theorem rlstV_no {l : List ByteArray} (h : okLZ l = false) : rlstV l = .tuple #[.string ⟨#[]⟩, .bool false] := by rw [rlstV, h]; rfl
theorem flat_step (l : List ByteArray) (j : Nat) (h : j < l.length) : mk (oct l.length 2 ++ (l.take j).flatMap tx) ++ mk (tx l[j]) = mk (oct l.length 2 ++ (l.take (j + 1)).flatMap tx) := by
  rw [mk_append, take_flat l j h]
theorem flat_size {l : List ByteArray} (hl : l.length ≤ 4000) (hs : ∀ s ∈ l, s.size ≤ 5000) (j : Nat) : (mk (oct l.length 2 ++ (l.take j).flatMap tx)).size ≤ 100000000 := by
  rw [mk_size, List.length_append, oct_length]
  have h1 := flat_length (l.take j) (fun x hx => hs x (List.mem_of_mem_take hx))
  have h2 : (l.take j).length ≤ 4000 := by rw [List.length_take]; omega
  omega
set_option maxHeartbeats 1000000 in
theorem rlist_any (l : List ByteArray) (v : Value) (w : World) (hl : l.length ≤ 1000000) (hs : ∀ s ∈ l, s.size ≤ 5000) (ht : Txts w w.heap.size v l) :
    Calls Try.prog 35 #[v] w fun e w' => e = .returned (rlstV l) ∧ Q w w' := by
  obtain ⟨A, c, rfl, hcells⟩ := ht
  have HS := Lib.hid hs
  have HC := Lib.hid hcells
  clear hs hcells
  by_cases hlong : 4000 < l.length
  · rw [rlstV_no (okL_long hlong)]
    go_enter Try.func35, Try.ntmps35
    go_wp2
    go_ret2
    exact ⟨rfl, Q.refl _⟩
  · go_enter Try.func35, Try.ntmps35
    go_wp2_with fail
    refine (rcountW_any l.length w (by omega)).mono ?_
    rintro e w1 ⟨rfl, q⟩
    go_wp2_with fail
    go_loopw [4, 5] (fun S i wr => ∃ (j : Nat) (t : ByteArray), j ≤ l.length ∧ t.size ≤ 100000000 ∧ i = .int .i64 j ∧ S = .string t ∧ Hid (t = mk (oct l.length 2 ++ (l.take j).flatMap tx)) ∧ Q w wr ∧ Hid (∀ s ∈ l.take j, s.size ≤ 4000)) (fun _ i _ => l.length - (intOf i).toNat)
    case atStart => exact ⟨0, _, Nat.zero_le _, by rw [mk_size, oct_length]; omega, rfl, rfl, Lib.hid (by simp), q, Lib.hid (by simp)⟩
    case round =>
      obtain ⟨j, t, hj, ht, rfl, rfl, HT, hq, HK⟩ := hrel
      by_cases hlt : j < l.length
      · obtain ⟨a, rfl, ha, hcell⟩ := HC.out j hlt
        have hcell' := (Below.cell hq (p := a.add j) (by rw [add_block]; exact ha)).trans hcell
        clear hcell
        obtain ⟨s, hsj⟩ : ∃ s, s = l[j] := ⟨_, rfl⟩
        rw [← hsj] at hcell'
        have h5 : s.size ≤ 5000 := by rw [hsj]; exact HS.out _ (List.getElem_mem hlt)
        have HJ := Lib.hid hsj
        clear hsj
        by_cases hbig : 4000 < s.size
        · have HV := Lib.hid (rlstV_no (okL_big hlt (by rw [← HJ.out]; exact hbig)))
          go_wp2_with fail
          go_ret2
          exact ⟨by rw [HV.out]; rfl, hq⟩
        · have HN := Lib.hid (flat_size (by omega) HS.out (j + 1))
          have HX : Hid (mk (oct l.length 2 ++ (l.take (j + 1)).flatMap tx) = t ++ mk (tx s)) := Lib.hid (by rw [HT.out, HJ.out]; exact (flat_step l j hlt).symm)
          have hz : (mk (tx s)).size ≤ 6000 := by rw [mk_size, tx_length]; omega
          have HR := Lib.hid (rtext_any s wr h5)
          obtain ⟨y, hy⟩ : ∃ y, y = mk (tx s) := ⟨_, rfl⟩
          rw [← hy] at HX hz HR
          clear hy
          go_wp2_with fail
          refine HR.out.mono ?_
          rintro e w2 ⟨rfl, q2⟩
          go_wp2_with fail
          go_roundw
          case rel => exact ⟨j + 1, _, by omega, by rw [← HX.out]; exact HN.out, by go_num, rfl, Lib.hid HX.out.symm, hq.trans q2, Lib.hid (okTo_step hlt HK.out (by rw [← HJ.out]; omega))⟩
          case measure => simp [intOf]; omega
      · obtain rfl : j = l.length := by omega
        have HV := Lib.hid (rlstV_yes (okTo_endZ (by omega) HK.out))
        have HT' : Hid (t = mk (lst l)) := Lib.hid (by rw [HT.out, List.take_length]; rfl)
        go_wp2
        go_ret2
        exact ⟨by rw [HV.out, ← HT'.out]; rfl, hq⟩
/-- The document's TakeNum. -/
theorem val_pre (s : ByteArray) (i : Nat) (h : i < s.size) (h8 : s.size ≥ 8) (hi : i < 8) : 256 * val (((bl s).take 8).drop (i + 1)) + s[i].toNat = val (((bl s).take 8).drop i) := by
  have hl : i < ((bl s).take 8).length := by rw [take_length s 8 h8]; exact hi
  rw [List.drop_eq_getElem_cons hl, val]
  have e : ((bl s).take 8)[i] = s[i] := by rw [List.getElem_take]; rfl
  rw [e]; omega
set_option maxHeartbeats 1000000 in
theorem rtakeNum_any (s : ByteArray) (w : World) (hs : s.size ≤ 1000000000) :
    Calls Try.prog 39 #[.string s] w fun e w' => e = .returned (.tuple #[.int .u64 ((tn s).1 : Nat), .bool (decide ((tn s).2.2 = 0))]) ∧ w = w' := by
  by_cases h8 : s.size < 8
  · have HE : Hid (tn s = (0, ⟨#[]⟩, 3)) := Lib.hid (by rw [tn, if_pos h8])
    go_enter Try.func39, Try.ntmps39
    go_wp2
    go_ret2
    exact ⟨by rw [HE.out]; rfl, rfl⟩
  · have HE : Hid (tn s = (val ((bl s).take 8), s.extract 8 s.size, 0)) := Lib.hid (by rw [tn, if_neg h8])
    go_enter Try.func39, Try.ntmps39
    go_wp2
    go_loop [4, 5] (fun M i => ∃ (z : Int) (m : Nat), -1 ≤ z ∧ z ≤ 7 ∧ i = .int .i64 z ∧ M = .int .u64 m ∧ m < 18446744073709551616 ∧ Hid (m = val (((bl s).take 8).drop (z + 1).toNat))) (fun _ i => (intOf i + 1).toNat)
    case atStart => exact ⟨7, 0, by omega, by omega, rfl, rfl, by omega, Lib.hid (by rw [List.drop_eq_nil_of_le (by rw [take_length s 8 (by omega)]; omega)]; rfl)⟩
    case round =>
      obtain ⟨z, m, hz0, hz1, rfl, rfl, hm, HM⟩ := hrel
      by_cases hz : 0 ≤ z
      · obtain ⟨k, rfl⟩ : ∃ k : Nat, z = k := ⟨z.toNat, by omega⟩
        have hk : k < s.size := by omega
        have e := val_pre s k hk (by omega) (by omega)
        rw [show k + 1 = ((k : Int) + 1).toNat by omega, ← HM.out] at e
        have hl := val_lt64 (((bl s).take 8).drop k) (by rw [List.length_drop, take_length s 8 (by omega)]; omega)
        rw [← e] at hl
        have HE2 := Lib.hid e
        clear e
        go_wp2
        go_round
        case rel => exact ⟨(k : Int) - 1, _, by omega, by omega, by go_num, by go_num, hl, Lib.hid (by rw [HE2.out, show ((k : Int) - 1 + 1).toNat = k by omega])⟩
        case measure => simp [intOf]
      · obtain rfl : z = -1 := by omega
        have HM' : Hid (m = val ((bl s).take 8)) := Lib.hid HM.out
        go_wp2
        go_ret2
        exact ⟨by rw [HE.out, ← HM'.out]; rfl, rfl⟩
theorem cnt_at (s : ByteArray) (h : 2 ≤ s.size) : cntZ s = s[0].toNat + 256 * s[1].toNat := by
  have e : (bl s).take 2 = [s[0], s[1]] := by rw [take_snocZ s 1 (by omega), take_snocZ s 0 (by omega)]; rfl
  rw [cntZ, e]; simp [val]
set_option maxHeartbeats 1000000 in
theorem rcnt_any (s : ByteArray) (w : World) (hs : s.size ≤ 1000000000) :
    Calls Try.prog 55 #[.string s] w fun e w' => e = .returned (.tuple #[.int .i64 ((tc s).1 : Nat), .int .i64 ((tc s).2.2 : Nat)]) ∧ Q w w' := by
  by_cases h2 : s.size < 2
  · have HE : Hid (tc s = (0, ⟨#[]⟩, 3)) := Lib.hid (by rw [tc, if_pos h2])
    go_enter Try.func55, Try.ntmps55
    go_wp2
    go_ret2
    exact ⟨by rw [HE.out]; rfl, Q.refl _⟩
  · have e := cnt_at s (by omega)
    have p0 : 0 < s.size := by omega
    have p1 : 1 < s.size := by omega
    have p2 : (1 : Int) < (s.size : Int) := by omega
    have p3 : (0 : Int) < (s.size : Int) := by omega
    have b0 := UInt8.toNat_lt s[0]
    have b1 := UInt8.toNat_lt s[1]
    by_cases h4 : 4000 < s[0].toNat + 256 * s[1].toNat
    · have HE : Hid (tc s = (0, ⟨#[]⟩, 2)) := Lib.hid (by rw [tc, if_neg h2, if_pos (by rw [e]; exact h4)])
      clear e
      go_enter Try.func55, Try.ntmps55
      go_wp2
      go_region
      go_wp2
      go_ret2
      exact ⟨by rw [HE.out]; rfl, (Q.refl _).drew⟩
    · have HE : Hid (tc s = (s[0].toNat + 256 * s[1].toNat, s.extract 2 s.size, 0)) := Lib.hid (by rw [tc, if_neg h2, if_neg (by rw [e]; exact h4), e])
      have HN : Hid (((tc s).1 : Int) = (s[0].toNat : Int) + 256 * (s[1].toNat : Int)) := Lib.hid (by rw [HE.out]; simp)
      have HF : Hid ((tc s).2.2 = 0) := Lib.hid (by rw [HE.out])
      clear e
      go_enter Try.func55, Try.ntmps55
      go_wp2
      go_region
      go_wp2
      go_ret2
      exact ⟨by rw [HN.out, HF.out]; rfl, (Q.refl _).drew⟩
/-- The document's TakeText: the text, how many octets that is, and the error's number. -/
def ttn (s : ByteArray) : Nat := if (tt s).2.2 = 0 then 2 + cntZ s else 0
set_option maxHeartbeats 1000000 in
theorem rtakeText_any (s : ByteArray) (w : World) (hs : s.size ≤ 1000000000) :
    Calls Try.prog 56 #[.string s] w fun e w' => e = .returned (.tuple #[.string (tt s).1, .int .i64 (ttn s : Nat), .int .i64 ((tt s).2.2 : Nat)]) ∧ Q w w' := by
  have HC := Lib.hid (rcnt_any s w hs)
  by_cases h2 : s.size < 2
  · have HE : Hid (tt s = (⟨#[]⟩, ⟨#[]⟩, 3)) := Lib.hid (by rw [tt, if_pos h2])
    have HN : Hid (ttn s = 0) := Lib.hid (by rw [ttn, HE.out]; rfl)
    have ht : tc s = (0, ⟨#[]⟩, 3) := by rw [tc, if_pos h2]
    rw [ht] at HC
    clear ht
    go_enter Try.func56, Try.ntmps56
    go_wp2_with fail
    refine HC.out.mono ?_
    rintro e w1 ⟨rfl, q⟩
    go_wp2
    go_ret3
    exact ⟨by rw [HE.out, HN.out]; rfl, q⟩
  · by_cases h4 : 4000 < cntZ s
    · have HE : Hid (tt s = (⟨#[]⟩, ⟨#[]⟩, 2)) := Lib.hid (by rw [tt, if_neg h2, if_pos h4])
      have HN : Hid (ttn s = 0) := Lib.hid (by rw [ttn, HE.out]; rfl)
      have ht : tc s = (0, ⟨#[]⟩, 2) := by rw [tc, if_neg h2, if_pos h4]
      rw [ht] at HC
      clear ht
      go_enter Try.func56, Try.ntmps56
      go_wp2_with fail
      refine HC.out.mono ?_
      rintro e w1 ⟨rfl, q⟩
      go_wp2
      go_ret3
      exact ⟨by rw [HE.out, HN.out]; rfl, q⟩
    · have ht : tc s = (cntZ s, s.extract 2 s.size, 0) := by rw [tc, if_neg h2, if_neg h4]
      rw [ht] at HC
      clear ht
      by_cases h5 : s.size < 2 + cntZ s
      · have HE : Hid (tt s = (⟨#[]⟩, ⟨#[]⟩, 3)) := Lib.hid (by rw [tt, if_neg h2, if_neg h4, if_pos h5])
        have HN : Hid (ttn s = 0) := Lib.hid (by rw [ttn, HE.out]; rfl)
        generalize cntZ s = c at *
        go_enter Try.func56, Try.ntmps56
        go_wp2_with fail
        refine HC.out.mono ?_
        rintro e w1 ⟨rfl, q⟩
        go_wp2
        go_ret3
        exact ⟨by rw [HE.out, HN.out]; rfl, q⟩
      · have HE : Hid (tt s = (s.extract 2 (2 + cntZ s), s.extract (2 + cntZ s) s.size, 0)) := Lib.hid (by rw [tt, if_neg h2, if_neg h4, if_neg h5])
        have HN : Hid ((ttn s : Int) = 2 + (cntZ s : Int)) := Lib.hid (by rw [ttn, HE.out]; simp)
        generalize cntZ s = c at *
        go_enter Try.func56, Try.ntmps56
        go_wp2_with fail
        refine HC.out.mono ?_
        rintro e w1 ⟨rfl, q⟩
        go_wp2
        go_ret3
        exact ⟨by rw [HE.out, HN.out]; rfl, q⟩
end Go.Proofs.Ythlbpjopkaninaa

