/-
  Contract of the program's firstRecord.
-/
import Derived.Test.YtpcanlafbcdmcaaKLay
import Derived.Test.YtpcanlafbcdmcaaKTcs
import Derived.Sort.QuietIn
namespace Go.Proofs.Ytpcanlafbcdmcaa
set_option maxRecDepth 100000
open Go.ChangeShapes Go.WideShapes Go.ChangeAt Go.RowKit Go.Shelf
set_option linter.unusedVariables false
set_option linter.unusedSimpArgs false
set_option maxRecDepth 100000
attribute [local go_sem] Oper.semAt_some

theorem quiet_d {P : Program} {f : FuncId} {args : Array Value} {w : World} {n : Nat} {v : Value}
    (h : Calls P f args (w.drewN n) fun e w' => e = .returned v ∧ D (w.drewN n) w') : Calls P f args (w.drewN n) fun e w'' => e = .returned v ∧ ∃ m, w'' = w.drewN m :=
  h.mono fun _ _ ⟨he, hm⟩ => ⟨he, by obtain ⟨m, rfl⟩ := hm; exact ⟨n + m, World.drewN_drewN _ _ _⟩⟩
theorem at_get (b : ByteArray) (i : Nat) (h : i < b.size) : b[i].toNat = atK b i := by
  have h2 : i < (bl b).length := by rw [bl_length]; exact h
  rw [atK, List.getElem?_eq_getElem h2]; rfl
def firV (o : Option ByteArray) : Value := match o with
  | some s => .tuple #[.string s, .bool true]
  | none => .tuple #[.string ⟨#[]⟩, .bool false]
theorem first_few {l : List ByteArray} {b : ByteArray} {r : List ByteArray} (hl : l = b :: r) (h : manyK (numK b) = 0 ∨ l.length < manyK (numK b)) : firstK l = none := by
  rw [hl] at h ⊢
  rw [firstK]
  simp only
  rw [if_pos h]
theorem two_res {w W : World} {p : Nat} {t1 t2 : TypeId} {c1 c2 : Value} (q : Q w W) (hp : w.heap.size ≤ p) (b1 : Bx W (p + 1) t1 #[c1]) (b2 : Bx W (p + 1 + 1) t2 #[c2]) (u z : Value) :
    ((W.setCell ⟨p + 1, 0, none⟩ u).setCell ⟨p + 1 + 1, 0, none⟩ z).cell? ⟨p + 1, 0, none⟩ = some u ∧ ((W.setCell ⟨p + 1, 0, none⟩ u).setCell ⟨p + 1 + 1, 0, none⟩ z).cell? ⟨p + 1 + 1, 0, none⟩ = some z ∧ Q w ((W.setCell ⟨p + 1, 0, none⟩ u).setCell ⟨p + 1 + 1, 0, none⟩ z) := by
  have e1 := (b1.set 0 u).other (B2 := p + 1 + 1) (by omega) 0 z
  have e2 := (b2.other (B2 := p + 1) (by omega) 0 u).set 0 z
  exact ⟨e1.cell 0, e2.cell 0, Q.set (Q.set q (by omega) _) (by omega) _⟩
set_option maxHeartbeats 4000000 in
theorem firstNo_any (l : List ByteArray) (v : Value) (w : World) (h0 : 0 < l.length) (hz : ∀ b ∈ l, b.size = 64) (hl : l.length ≤ 1000000) (ht : Tcs w w.heap.size v l) (hf : manyK (numK (l[0]'h0)) = 0 ∨ l.length < manyK (numK (l[0]'h0))) :
    Calls Try.prog 25 #[v] w fun e w' => e = .returned (.tuple #[.string ⟨#[]⟩, .bool false]) ∧ Q w w' := by
  obtain ⟨a, c, rfl, hlc, ha, hcs⟩ := ht.at h0
  have hc := hcs 0 h0
  rw [show a.add 0 = a by cases a; simp [Addr.add]] at hc
  have hs := hz l[0] (List.getElem_mem h0)
  obtain ⟨b, hb⟩ : ∃ b, b = l[0] := ⟨_, rfl⟩
  rw [← hb] at hf hc hs
  clear hb
  have hs3 : 0 < b.size := by omega
  have hs4 : 1 < b.size := by omega
  have hx0 := at_get b 0 hs3
  have hx1 := at_get b 1 hs4
  have x0l := atK_lt b 0
  have x1l := atK_lt b 1
  have HN : Hid (numK b = atK b 0 + 256 * atK b 1) := Lib.hid rfl
  obtain ⟨x0, hx⟩ : ∃ x0, x0 = atK b 0 := ⟨_, rfl⟩
  obtain ⟨x1, hy⟩ : ∃ x1, x1 = atK b 1 := ⟨_, rfl⟩
  rw [← hx] at hx0 x0l HN
  rw [← hy] at hx1 x1l HN
  obtain ⟨n, hn⟩ : ∃ n, n = numK b := ⟨_, rfl⟩
  rw [← hn] at hf HN
  have N := Lib.hid fun w => number_any x0 x1 w x0l x1l
  rw [← HN.out] at N
  have hn2 : n < 65536 := by have := HN.out; omega
  have M := Lib.hid fun w => many_any (n : Int) w (by omega)
  rw [manyI_nat] at M
  have hkl := manyK_le n
  obtain ⟨k, hk⟩ : ∃ k, k = manyK n := ⟨_, rfl⟩
  rw [← hk] at M hf hkl
  have hs1 : (0 : Int) < (b.size : Int) := by omega
  have hs2 : (1 : Int) < (b.size : Int) := by omega
  have h0' : (0 : Int) < (l.length : Int) := by omega
  have HS := Lib.hid hs
  clear hx hy hn hk ht hz hs hcs hlc
  have three : ∃ W0, W0 = ((w.alloc (.cells #[.slice (some a) l.length c] 28)).alloc (.cells #[.string ⟨#[]⟩] 9)).alloc (.cells #[.bool false] 4) := ⟨_, rfl⟩
  obtain ⟨W0, hW0⟩ := three
  obtain ⟨p, hp⟩ : ∃ p, p = w.heap.size := ⟨_, rfl⟩
  have b0 : Bx W0 p 28 #[.slice (some a) l.length c] := by rw [hW0, hp]; exact ((Bx.new w _ _).alloc _).alloc _
  have b1 : Bx W0 (p + 1) 9 #[.string ⟨#[]⟩] := by
    have := (Bx.new (w.alloc (.cells #[.slice (some a) l.length c] 28)) 9 #[.string ⟨#[]⟩]).alloc (.cells #[.bool false] 4)
    rw [World.size_alloc, ← hp] at this; rw [hW0]; exact this
  have b2 : Bx W0 (p + 1 + 1) 4 #[.bool false] := by
    have := Bx.new ((w.alloc (.cells #[.slice (some a) l.length c] 28)).alloc (.cells #[.string ⟨#[]⟩] 9)) 4 #[.bool false]
    rw [World.size_alloc, World.size_alloc, ← hp] at this; rw [hW0]; exact this
  have q0 : Q w W0 := by rw [hW0]; exact (((Q.refl w).alloc _).alloc _).alloc _
  have d0 : W0.cell? a = some (.string b) := (q0.cell ha).trans hc
  have c0 : W0.cell? ⟨p, 0, none⟩ = some (.slice (some a) l.length c) := b0.cell 0
  have c1 : W0.cell? ⟨p + 1, 0, none⟩ = some (.string ⟨#[]⟩) := b1.cell 0
  have c2 : W0.cell? ⟨p + 1 + 1, 0, none⟩ = some (.bool false) := b2.cell 0
  have f1 := b1.frozen 0
  have f2 := b2.frozen 0
  have Q0 := Lib.hid q0
  have HP := Lib.hid hp
  have HW := Lib.hid hW0
  have B1 := Lib.hid b1
  have B2 := Lib.hid b2
  clear b0 b1 b2 q0 hc
  by_cases hk0 : k = 0
  · subst hk0
    go_enter Try.func25, Try.ntmps25
    go_wp2_with fail
    try simp only [World.size_alloc]
    rw [← hp, ← hW0]
    clear hp hW0 hf
    go_quiet (exact quiet_d (N.out _))
    go_wp2_with fail
    refine (M.out _).mono ?_
    rintro e x1 ⟨rfl, rfl⟩
    go_wp2_with fail
    obtain ⟨z1, z2, z3⟩ := two_res (Q0.out.drewN nq) (by rw [HP.out]; exact Nat.le_refl _) (B1.out.on ((Q.refl _).drewN nq)) (B2.out.on ((Q.refl _).drewN nq)) (.string ⟨#[]⟩) (.bool false)
    (try simp only [Exit.inBlock, Exit.then])
    refine bodyPost_ret (v := .tuple #[.string ⟨#[]⟩, .bool false]) (by simp [results, Try.results25, go_sem, z1, z2]) rfl ⟨rfl, z3⟩
  · have hk1 : ((k : Int) == 0) = false := beq_false_of_ne (by omega)
    have hk2 : (l.length : Int) < (k : Int) := by omega
    go_enter Try.func25, Try.ntmps25
    go_wp2_with fail
    try simp only [World.size_alloc]
    rw [← hp, ← hW0]
    clear hp hW0 hf
    go_quiet (exact quiet_d (N.out _))
    go_wp2_with fail
    refine (M.out _).mono ?_
    rintro e x1 ⟨rfl, rfl⟩
    go_wp2_with fail
    obtain ⟨z1, z2, z3⟩ := two_res (Q0.out.drewN nq) (by rw [HP.out]; exact Nat.le_refl _) (B1.out.on ((Q.refl _).drewN nq)) (B2.out.on ((Q.refl _).drewN nq)) (.string ⟨#[]⟩) (.bool false)
    (try simp only [Exit.inBlock, Exit.then])
    refine bodyPost_ret (v := .tuple #[.string ⟨#[]⟩, .bool false]) (by simp [results, Try.results25, go_sem, z1, z2]) rfl ⟨rfl, z3⟩
theorem body_take (l : List ByteArray) (j : Nat) (h : j < l.length) : bodyK (l.take (j + 1)) = bodyK (l.take j) ++ bl (l[j].extract 0 60) := by
  rw [bodyK, bodyK, List.take_succ_eq_append_getElem h, List.flatMap_append, List.flatMap_singleton, bl_extract, List.drop_zero]
theorem body_len (l : List ByteArray) (hz : ∀ b ∈ l, b.size = 64) (j : Nat) (h : j ≤ l.length) : (bodyK (l.take j)).length = 60 * j := by
  rw [bodyK_length _ (fun b hb => hz b (List.mem_of_mem_take hb)), List.length_take, Nat.min_eq_left h]
theorem key_ne {a b : ByteArray} (h : ¬ a = b) : (a.toList == b.toList) = false := by rw [eq_texts]; simp [h]
/-- Octets from the third on. -/
theorem RowO.at {base : Nat} {w : World} {v : Value} {l : List UInt8} (h : RowO base w v l) (h0 : 0 < l.length) : ∃ g cap, v = .slice (some ⟨g, 0, none⟩) l.length cap ∧ l.length ≤ cap := by
  rcases h.2 with ⟨rfl, h1⟩ | ⟨g, cap, cur, rfl, -, -, h2, -⟩
  · omega
  · exact ⟨g, cap, rfl, h2⟩
theorem conv_mid {base g cap : Nat} {w : World} {l : List UInt8} {N n : Nat} (h : w.ownsRow base 5 1 (.slice (some ⟨g, 0, none⟩) N cap) l.length (Lib.byteCells l)) (hn : n + 2 ≤ l.length) (c2 : Nat) :
    (convert 45 9 (.slice (some ⟨g, 2, none⟩) n c2)).run Try.prog w = .ok (.string (mk ((l.drop 2).take n))) w := by
  have hl : ((l.drop 2).take n).length = n := by rw [List.length_take, List.length_drop]; omega
  have := run_convert_bytes_back (P := Try.prog) w 45 9 5 ⟨g, 2, none⟩ c2 ((l.drop 2).take n) Try.underlying45 Try.underlying5 Try.underlying9 (fun j hj => by
    have h2 := World.ownsRow.cells (g := g) h rfl (2 + j) (.int .u8 (((l.drop 2).take n)[j].toNat : Nat)) (by
      have hj2 : j < n := by omega
      rw [Lib.byteCells, List.getElem?_map, List.getElem?_eq_getElem (by omega), Option.map_some, List.getElem_take, List.getElem_drop])
    rw [add_flat] at h2
    have : (⟨g, 2, none⟩ : Addr).add j = ⟨g, 2 + j, none⟩ := by
      by_cases hj0 : j = 0
      · subst hj0; rfl
      · simp [Addr.add, hj0]
    rw [this]; exact h2)
  rw [hl] at this
  exact this
set_option maxHeartbeats 8000000 in
theorem firstIn_any (l : List ByteArray) (v : Value) (w : World) (h0 : 0 < l.length) (hz : ∀ b ∈ l, b.size = 64) (hl : l.length ≤ 1000000) (ht : Tcs w w.heap.size v l) (hf : ¬ manyK (numK (l[0]'h0)) = 0) (hf2 : manyK (numK (l[0]'h0)) ≤ l.length) :
    Calls Try.prog 25 #[v] w fun e w' => e = .returned (firV (firstK l)) ∧ Q w w' := by
  have HT := Lib.hid ht
  obtain ⟨a, c, rfl, hlc, ha, hcs⟩ := ht.at h0
  have hc := hcs 0 h0
  rw [show a.add 0 = a by cases a; simp [Addr.add]] at hc
  have HZ := Lib.hid hz
  have hs := hz l[0] (List.getElem_mem h0)
  have HFI : Hid (∀ n k s, n = numK (l[0]'h0) → k = manyK n → s = mk (((bodyK (l.take k)).drop 2).take n) → firstK l = if layK s = l.take k then some s else none) := Lib.hid (by
    rintro n k s rfl rfl rfl
    cases l with
    | nil => cases h0
    | cons b r =>
      rw [firstK]
      simp only
      have hf2' : manyK (numK b) ≤ (b :: r).length := hf2
      rw [if_neg (by rintro (h | h); exact hf h; omega)]
      rfl)
  obtain ⟨b, hb⟩ : ∃ b, b = l[0] := ⟨_, rfl⟩
  rw [← hb] at hf hf2 hc hs HFI
  clear hb
  have hs3 : 0 < b.size := by omega
  have hs4 : 1 < b.size := by omega
  have hx0 := at_get b 0 hs3
  have hx1 := at_get b 1 hs4
  have x0l := atK_lt b 0
  have x1l := atK_lt b 1
  have HN : Hid (numK b = atK b 0 + 256 * atK b 1) := Lib.hid rfl
  obtain ⟨x0, hx⟩ : ∃ x0, x0 = atK b 0 := ⟨_, rfl⟩
  obtain ⟨x1, hy⟩ : ∃ x1, x1 = atK b 1 := ⟨_, rfl⟩
  rw [← hx] at hx0 x0l HN
  rw [← hy] at hx1 x1l HN
  obtain ⟨n, hn⟩ : ∃ n, n = numK b := ⟨_, rfl⟩
  rw [← hn] at hf hf2 HN HFI
  have N := Lib.hid fun w => number_any x0 x1 w x0l x1l
  rw [← HN.out] at N
  have hn2 : n < 65536 := by have := HN.out; omega
  have M := Lib.hid fun w => many_any (n : Int) w (by omega)
  rw [manyI_nat] at M
  have hkl := manyK_le n
  have hn3 : n ≤ 12000 := by
    apply Classical.byContradiction; intro h
    apply hf; unfold manyK; rw [if_neg h]
  have hroom := manyK_room hn3
  have HFI2 : Hid (∀ s, s = mk (((bodyK (l.take (manyK n))).drop 2).take n) → firstK l = if layK s = l.take (manyK n) then some s else none) := Lib.hid (fun s hs => HFI.out n _ s rfl rfl hs)
  have HKS : Hid (∀ s : ByteArray, s.size = n → manyK n = manyK s.size) := Lib.hid (fun s hs => by rw [hs])
  obtain ⟨k, hk⟩ : ∃ k, k = manyK n := ⟨_, rfl⟩
  rw [← hk] at M hf hf2 hkl hroom HFI2 HKS
  have hs1 : (0 : Int) < (b.size : Int) := by omega
  have hs2 : (1 : Int) < (b.size : Int) := by omega
  have h0' : (0 : Int) < (l.length : Int) := by omega
  have hk1 : ((k : Int) == 0) = false := beq_false_of_ne (by omega)
  have hk2 : decide (l.length < k) = false := by simp; omega
  have HS := Lib.hid hs
  have HBL := Lib.hid (fun j h => body_len l hz j h)
  have HBT := Lib.hid (fun j h => body_take l j h)
  have HCS := Lib.hid hcs
  have hkc : (k : Int) ≤ (c : Int) := by omega
  have hkc' : k ≤ c := by omega
  have hc0 : ¬ c = 0 := by omega
  clear hx hy hn hk ht hz hs HFI HN hcs hlc
  have three : ∃ W0, W0 = ((w.alloc (.cells #[.slice (some a) l.length c] 28)).alloc (.cells #[.string ⟨#[]⟩] 9)).alloc (.cells #[.bool false] 4) := ⟨_, rfl⟩
  obtain ⟨W0, hW0⟩ := three
  obtain ⟨p, hp⟩ : ∃ p, p = w.heap.size := ⟨_, rfl⟩
  have b0 : Bx W0 p 28 #[.slice (some a) l.length c] := by rw [hW0, hp]; exact ((Bx.new w _ _).alloc _).alloc _
  have b1 : Bx W0 (p + 1) 9 #[.string ⟨#[]⟩] := by
    have := (Bx.new (w.alloc (.cells #[.slice (some a) l.length c] 28)) 9 #[.string ⟨#[]⟩]).alloc (.cells #[.bool false] 4)
    rw [World.size_alloc, ← hp] at this; rw [hW0]; exact this
  have b2 : Bx W0 (p + 1 + 1) 4 #[.bool false] := by
    have := Bx.new ((w.alloc (.cells #[.slice (some a) l.length c] 28)).alloc (.cells #[.string ⟨#[]⟩] 9)) 4 #[.bool false]
    rw [World.size_alloc, World.size_alloc, ← hp] at this; rw [hW0]; exact this
  have q0 : Q w W0 := by rw [hW0]; exact (((Q.refl w).alloc _).alloc _).alloc _
  have hsz : W0.heap.size = p + 1 + 1 + 1 := by rw [hW0, World.size_alloc, World.size_alloc, World.size_alloc, hp]
  have d0 : W0.cell? a = some (.string b) := (q0.cell ha).trans hc
  have c0 : W0.cell? ⟨p, 0, none⟩ = some (.slice (some a) l.length c) := b0.cell 0
  have Q0 := Lib.hid q0
  have HP := Lib.hid hp
  have B0 := Lib.hid b0
  have B1 := Lib.hid b1
  have B2 := Lib.hid b2
  have HSZ := Lib.hid hsz
  clear b0 b1 b2 q0 hc hsz
  refine (callsIn_wide (n := 9)).1 ?_
  refine callsIn_of_wp_marks Try.func25 rfl trivial ?_ rfl
  simp only [Try.ntmps25, List.size_toArray, List.length_cons, List.length_nil, Nat.reduceAdd, Nat.reduceSub, Array.replicate_succ, Array.replicate_zero, List.push_toArray, List.append_toArray, List.nil_append, List.cons_append]
  gi_wp2
  try simp only [World.size_alloc]
  rw [← hp, ← hW0]
  clear hp hW0
  refine wpIn_region_quiet_lit rfl (by kernel_rfl) (by kernel_rfl) ?_
  iterate 8 gi_big_quiet_step (fail)
  refine wpQuietIn_step (fun _ _ _ _ => trivial) (fun K hK => ?_)
  rw [if_pos (by rfl)]
  gi_big_quiet_op
  refine ⟨.int .i64 (n : Nat), fun _ => callsIn_wide.2 (quiet_d (N.out _)), ?_⟩
  refine hK _ ?_
  clear hK K
  iterate 1 gi_big_quiet_step (fail)
  refine wpQuietIn_nil ?_
  intro W1 hw'
  obtain ⟨nq, rfl⟩ := hw'
  have q1 := Q0.out.drewN nq
  have B0 := Lib.hid (B0.out.on ((Q.refl _).drewN nq))
  have B1 := Lib.hid (B1.out.on ((Q.refl _).drewN nq))
  have B2 := Lib.hid (B2.out.on ((Q.refl _).drewN nq))
  have c0' := B0.out.cell 0
  simp only [List.getElem?_toArray, List.getElem?_cons_zero] at c0'
  have hsz1 : Hid ((W0.drewN nq).heap.size = p + 1 + 1 + 1) := Lib.hid HSZ.out
  clear Q0 HSZ c0 d0
  obtain ⟨W1, hW1⟩ : ∃ W1, W1 = W0.drewN nq := ⟨_, rfl⟩
  rw [← hW1] at q1 B0 B1 B2 c0' hsz1 ⊢
  clear hW1
  gi_wp2_with (refine ⟨trivial, ?_⟩; gi_at_call 12; refine (callsIn_wide.2 (M.out _)).mono ?_; rintro e1 w1 ⟨rfl, rfl⟩)
  have QB := Lib.hid q1
  have HLK := Lib.hid (show k ≤ l.length from hf2)
  clear q1 c0'
  gi_loopw [6, 35] (fun O I wr => ∃ j : Nat, j ≤ k ∧ I = .int .i64 j ∧ Hid (RowO (p + 1 + 1 + 1) wr O (bodyK (l.take j))) ∧ Hid (Q w1 wr)) (fun _ I _ => k - (intOf I).toNat)
  case atStart => exact ⟨0, Nat.zero_le _, rfl, Lib.hid (RowO.nil _ _), Lib.hid (Q.refl _)⟩
  case round =>
    obtain ⟨j, hj, rfl, HR, HQ⟩ := hrel
    by_cases hlt : j < k
    · have hkt : (j : Int) < (k : Int) := by omega
      have hjl : j < l.length := by have := HLK.out; omega
      have hat : wr.cell? (a.add j) = some (.string l[j]) := ((QB.out.trans HQ.out).cell (by rw [add_block]; exact ha)).trans (HCS.out j hjl)
      have hbz : l[j].size = 64 := HZ.out _ (List.getElem_mem hjl)
      have HB := Lib.hid (HBT.out j hjl)
      have hlen := HBL.out j (by omega)
      obtain ⟨y, hy⟩ : ∃ y, y = l[j] := ⟨_, rfl⟩
      rw [← hy] at hat hbz HB
      have hyz : (y.extract 0 60).size = 60 := by rw [size_cut _ (by omega)]
      have hb1 : (60 : Int) ≤ (y.size : Int) := by omega
      have hws : p + 1 + 1 + 1 ≤ wr.heap.size := by have := HQ.out.size; have := hsz1.out; omega
      clear hy
      gi_wp2_with (gi_at_builtin; refine wpListIn_append_oct wr rfl _ _ rfl (p + 1 + 1 + 1) _ (bodyK (l.take j)) (y.extract 0 60) rfl rfl HR.out (by omega) (by omega) hws ?_; intro v1 w2 HO)
      go_roundw
      case rel => exact ⟨j + 1, by omega, by go_num, Lib.hid (by rw [HB.out]; exact HO.out.1), Lib.hid (Below.trans HQ.out (Below.mono HO.out.2.2.2 (by have := hsz1.out; omega)))⟩
      case measure => simp [intOf]; omega
    · obtain rfl : j = k := by omega
      have hlen := HBL.out j (by have := HLK.out; omega)
      have hr := HR.out
      obtain ⟨g, cap, rfl, hcap⟩ := hr.at (by omega)
      have hcv := conv_mid (n := n) hr (by omega) (cap - 2)
      have HS2 : Hid ((mk (((bodyK (l.take j)).drop 2).take n)).size = n) := Lib.hid (by rw [mk_size, List.length_take, List.length_drop]; omega)
      obtain ⟨s, hs⟩ : ∃ s, s = mk (((bodyK (l.take j)).drop 2).take n) := ⟨_, rfl⟩
      have HFS := Lib.hid (HFI2.out s hs)
      rw [← hs] at hcv HS2
      clear hs
      have HKS2 := Lib.hid (HKS.out s HS2.out)
      obtain ⟨N1, hN1⟩ : ∃ N1, N1 = (bodyK (l.take j)).length := ⟨_, rfl⟩
      rw [← hN1] at hlen hcap ⊢
      obtain ⟨m, hm⟩ : ∃ m, m = n + 2 := ⟨_, rfl⟩
      have e1 : (2 : Int) + (n : Int) = (m : Int) := by omega
      have e2 : m - 2 = n := by omega
      have e3 : (m : Int) ≤ (cap : Int) := by omega
      have e4 : m ≤ cap := by omega
      have e5 : ¬ cap = 2 := by omega
      have e6 : (2 : Int) ≤ (m : Int) := by omega
      have e7 : 2 ≤ m := by omega
      have hmm : m ≤ 100000 := by omega
      have HBC := Lib.hid fun w => blks_any s w
      clear hm hlen hr HR hN1 hcap
      gi_wp2_with (refine ⟨trivial, ?_⟩; gi_at_call 23; refine (callsIn_wide.2 (HBC.out _)).mono ?_; rintro e4 w4 ⟨rfl, rfl⟩)
      have hs12 : s.size ≤ 12000 := by have := HS2.out; omega
      obtain ⟨B, hB⟩ : ∃ B, B = wr.heap.size := ⟨_, rfl⟩
      have bS := Bx.new wr 9 #[.string s]
      rw [← hB] at bS ⊢
      have qr : Q w1 wr := HQ.out
      have q2 : Q w1 (wr.alloc (.cells #[.string s] 9)) := qr.alloc _
      have hsB : (wr.alloc (.cells #[.string s] 9)).heap.size = B + 1 := by rw [World.size_alloc, hB]
      have hpB : p + 1 + 1 + 1 ≤ B := by rw [hB]; have := qr.size; have := hsz1.out; omega
      obtain ⟨W2, hW2⟩ : ∃ W2, W2 = wr.alloc (.cells #[.string s] 9) := ⟨_, rfl⟩
      rw [← hW2] at bS q2 hsB ⊢
      have b0 := B0.out.on q2
      have b1 := B1.out.on q2
      have b2 := B2.out.on q2
      have q3 := QB.out.trans q2
      clear hW2 HBC HQ qr q2 hB
      have hjl : j ≤ l.length := HLK.out
      refine wpIn_rangeFunc_ownG (F := Fence.wide) rfl (by omega) (gf := 28) (lb := #[.pointer (some ⟨B, 0, none⟩)]) rfl trivial (enters_of Try.func28 (by kernel_rfl) rfl)
        (blocks_stops (9 - 1) (by omega) B s hs12 j HKS2.out W2 bS) (fun _ _ => trivial) (fun _ _ _ _ _ _ _ _ => trivial) (Below.refl _ _) (fun _ => rfl)
        (fun pre W => (Bx W p 28 #[.slice (some a) l.length c] ∧ Bx W (p + 1) 9 #[.string ⟨#[]⟩] ∧ Bx W (p + 1 + 1) 4 #[.bool false]) ∧ Below w.heap.size w W ∧ ∀ x ∈ pre, l[x.1]? = some (mk (blkK (bl s) x.1)))
        (fun cc pre W => (cc = .ret ∧ ∃ x : Fin j, ¬ l[x.1]? = some (mk (blkK (bl s) x.1))) ∧ (Bx W (p + 1) 9 #[.string ⟨#[]⟩] ∧ Bx W (p + 1 + 1) 4 #[.bool false]) ∧ Below w.heap.size w W)
        (OwnFrom.and (Own.from (fun s2 X Y row hs2 hg hr => ⟨bx_own p 28 (fun _ : Unit => #[.slice (some a) l.length c]) () X Y row hs2.1 hg hr, bx_own (p + 1) 9 (fun _ : Unit => #[.string ⟨#[]⟩]) () X Y row hs2.2.1 hg hr, bx_own (p + 1 + 1) 4 (fun _ : Unit => #[.bool false]) () X Y row hs2.2.2 hg hr⟩) _)
          (OwnFrom.and (ownFrom_below (by omega) (by have := HP.out; omega)) (ownFrom_pure _ _)))
        (fun cc s2 X Y row hs2 hg hr => ⟨hs2.1, ⟨bx_own (p + 1) 9 (fun _ : Unit => #[.string ⟨#[]⟩]) () X Y row hs2.2.1.1 hg (fun r e => (hr r e).2), bx_own (p + 1 + 1) 4 (fun _ : Unit => #[.bool false]) () X Y row hs2.2.1.2 hg (fun r e => (hr r e).2)⟩, ownFrom_below (β := Unit) (by omega) (by have := HP.out; omega) () X Y row hs2.2.2 hg hr⟩)
        ⟨⟨b0, b1, b2⟩, q3, fun _ h => by cases h⟩
        (fun x => { tmps := #[.slice (some a) l.length c, .pointer (some ⟨p, 0, none⟩), .pointer (some ⟨p + 1, 0, none⟩), .pointer (some ⟨p + 1 + 1, 0, none⟩), .int .i64 n, .int .i64 j, .slice (some ⟨g, 0, none⟩) N1 cap, undef, u8, .string s, .int .i64 x.1, .string (mk (blkK (bl s) x.1)), .slice (some a) l.length c, .pointer (some a), .string b, .int .u8 x0, .slice (some a) l.length c, .pointer (some a), .string b, .int .u8 x1, .int .i64 n, .int .i64 n, .int .i64 j, .int .i64 j, .bool false, .bool false, .int .i64 j, .slice (some a) l.length c, .int .i64 l.length, .bool false, .bool false, .slice (some a) l.length c, .int .i64 j, .slice (some a) j c, .int .i64 j, .int .i64 j, .bool false, u37, u38, u39, u40, u41, u42, u43, .slice (some ⟨g, 0, none⟩) N1 cap, .int .i64 n, .int .i64 m, .slice (some ⟨g, 2, none⟩) n (cap - 2), .string s, .string s, itB 28 B, .int .i64 x.1, .string (mk (blkK (bl s) x.1)), undef, undef, undef, undef, undef, undef, undef], defers := [] }) ?assign ?body ?done ?stop
      case assign =>
        intro lp x W K hK
        gi_wp2
        exact hK
      case body =>
        rintro lp pre x W ⟨⟨hb0, hb1, hb2⟩, hBW, hall⟩ hlt2
        have hxl : x.1 < l.length := by have := x.2; omega
        have c0 := hb0.cell 0
        have c1 := hb1.cell 0
        have c2 := hb2.cell 0
        simp only [List.getElem?_toArray, List.getElem?_cons_zero] at c0 c1 c2
        have f1 := hb1.frozen 0
        have f2 := hb2.frozen 0
        have hat : W.cell? (a.add x.1) = some (.string l[x.1]) := (Below.cell hBW (by rw [add_block]; exact ha)).trans (HCS.out x.1 hxl)
        have HE := Lib.hid (List.getElem?_eq_getElem hxl)
        obtain ⟨y, hy⟩ : ∃ y, y = l[x.1] := ⟨_, rfl⟩
        rw [← hy] at hat HE
        clear hy
        obtain ⟨X, hX⟩ : ∃ X, X = mk (blkK (bl s) x.1) := ⟨_, rfl⟩
        have HX := Lib.hid hX
        rw [← hX]
        obtain ⟨i, hi⟩ : ∃ i, i = x.1 := ⟨_, rfl⟩
        have hxi : (i : Int) < (l.length : Int) := by omega
        have hxi' : i < l.length := by omega
        have HI := Lib.hid hi
        rw [← hi] at hat ⊢
        clear hX hxl hi
        by_cases heq : X = y
        · have he : (X.toList == y.toList) = true := by rw [heq]; simp
          gi_wp2
          refine ⟨KeepsFrom.refl _ _, trivial, ⟨hb0, hb1, hb2⟩, hBW, fun z hz => ?_⟩
          rcases List.mem_append.1 hz with hz | hz
          · exact hall z hz
          · rw [List.mem_singleton] at hz
            subst hz
            rw [HE.out, ← heq, HX.out]
        · have he : (X.toList == y.toList) = false := key_ne heq
          gi_wp2
          refine ⟨((KeepsOthers.setCell _ _ _).trans (KeepsOthers.setCell _ _ _)).from _, ⟨rfl, x, by rw [HE.out, ← HX.out]; exact fun h => heq (by injection h with h; exact h.symm)⟩, ⟨?_, ?_⟩, ?_⟩
          · exact (hb1.set 0 _).other (by omega) _ _
          · exact (hb2.other (by omega) _ _).set 0 _
          · exact (hBW.setCell (p := ⟨p + 1, 0, none⟩) (by have := HP.out; show w.heap.size ≤ p + 1; omega) _).setCell (p := ⟨p + 1 + 1, 0, none⟩) (by have := HP.out; show w.heap.size ≤ p + 1 + 1; omega) _
      case done =>
        rintro D ys W hD rfl ⟨⟨hb0, hb1, hb2⟩, hBW, hall⟩ hK2
        have HV : Hid (firstK l = some s) := Lib.hid (by
          rw [HFS.out, if_pos]
          apply List.ext_getElem?
          intro q
          rw [List.getElem?_take]
          by_cases hq : q < j
          · rw [if_pos hq, List.getElem?_eq_getElem (by rw [layK_length, ← HKS2.out]; exact hq), layK_get]
            exact (hall ⟨q, hq⟩ (by simp [prsK])).symm
          · rw [if_neg hq, List.getElem?_eq_none (by rw [layK_length, ← HKS2.out]; omega)])
        have c1 := hb1.cell 0
        have c2 := hb2.cell 0
        simp only [List.getElem?_toArray, List.getElem?_cons_zero] at c1 c2
        have f1 := hb1.frozen 0
        have f2 := hb2.frozen 0
        have HH := Lib.hid hK2
        clear hall hK2
        gi_wp2
        have hD1 : D ≠ p + 1 := by omega
        have hD2 : D ≠ p + 1 + 1 := by omega
        have hK3 : ((W.setCell ⟨p + 1, 0, none⟩ (.string s)).setCell ⟨p + 1 + 1, 0, none⟩ (.bool true)).heap[D]? = some (.deferred (some [])) := (heap_set _ _ _ _ hD2).trans ((heap_set _ _ _ _ hD1).trans HH.out)
        have r1 := ((hb1.set 0 (.string s)).other (B2 := p + 1 + 1) (by omega) 0 (.bool true)).same (World.putObj_heap_other (o := .deferred none) hD1.symm)
        have r2 := ((hb2.other (B2 := p + 1) (by omega) 0 (.string s)).set 0 (.bool true)).same (World.putObj_heap_other (o := .deferred none) hD2.symm)
        have y1 := r1.cell 0
        have y2 := r2.cell 0
        have qz := ((hBW.setCell (p := ⟨p + 1, 0, none⟩) (by have := HP.out; show w.heap.size ≤ p + 1; omega) (.string s)).setCell (p := ⟨p + 1 + 1, 0, none⟩) (by have := HP.out; show w.heap.size ≤ p + 1 + 1; omega) (.bool true))
        refine ⟨by simp, .inl ⟨_, _, rfl, run_takeDeferred hK3, ?_⟩⟩
        refine ⟨.tuple #[.string s, .bool true], ?_, by rw [HV.out]; rfl, qz.grown (grownBy_putObj' _ D _) qz.size (fun k e => by cases e; have := HP.out; omega)⟩
        simp [results, Try.results25, go_sem, y1, y2]
      case stop =>
        rintro D cc pre W hD hSp ⟨⟨rfl, x, hx⟩, ⟨hb1, hb2⟩, hBW⟩ hK2
        have HV : Hid (firstK l = none) := Lib.hid (by
          rw [HFS.out, if_neg]
          intro h
          apply hx
          have h2 : l[x.1]? = (l.take j)[x.1]? := by rw [List.getElem?_take, if_pos x.2]
          rw [h2, ← h, List.getElem?_eq_getElem (by rw [layK_length, ← HKS2.out]; exact x.2), layK_get])
        have c1 := hb1.cell 0
        have c2 := hb2.cell 0
        simp only [List.getElem?_toArray, List.getElem?_cons_zero] at c1 c2
        have HH := Lib.hid hK2
        clear hK2
        gi_wp2
        have hD1 : D ≠ p + 1 := by omega
        have hD2 : D ≠ p + 1 + 1 := by omega
        have r1 := hb1.same (World.putObj_heap_other (o := .deferred none) hD1.symm)
        have r2 := hb2.same (World.putObj_heap_other (o := .deferred none) hD2.symm)
        have y1 := r1.cell 0
        have y2 := r2.cell 0
        refine ⟨by simp, .inl ⟨_, _, rfl, run_takeDeferred HH.out, ?_⟩⟩
        refine ⟨.tuple #[.string ⟨#[]⟩, .bool false], ?_, by rw [HV.out]; rfl, hBW.grown (grownBy_putObj' _ D _) hBW.size (fun k e => by cases e; have := HP.out; omega)⟩
        simp [results, Try.results25, go_sem, y1, y2]
/-- Contract of the program's firstRecord. -/
theorem first_any (l : List ByteArray) (v : Value) (w : World) (h0 : 0 < l.length) (hz : ∀ b ∈ l, b.size = 64) (hl : l.length ≤ 1000000) (ht : Tcs w w.heap.size v l) :
    Calls Try.prog 25 #[v] w fun e w' => e = .returned (firV (firstK l)) ∧ Q w w' := by
  by_cases hf : manyK (numK (l[0]'h0)) = 0 ∨ l.length < manyK (numK (l[0]'h0))
  · have hn : firstK l = none := by
      cases l with
      | nil => cases h0
      | cons b r => exact first_few rfl hf
    rw [hn]
    exact firstNo_any l v w h0 hz hl ht hf
  · exact firstIn_any l v w h0 hz hl ht (fun h => hf (.inl h)) (by
      have : ¬ l.length < manyK (numK (l[0]'h0)) := fun h => hf (.inr h)
      omega)
end Go.Proofs.Ytpcanlafbcdmcaa
