/-
  Contracts of the law's few, cut and blocks, and of the document's Join.
-/
import Derived.Test.YtpcanlafbcdmcaaKScan
namespace Go.Proofs.Ytpcanlafbcdmcaa
set_option maxRecDepth 100000
open Go.ChangeShapes Go.WideShapes Go.ChangeAt Go.RowKit
set_option linter.unusedVariables false
set_option linter.unusedSimpArgs false
set_option maxRecDepth 100000

def fewK (s : ByteArray) : ByteArray := if 500 < s.size ∧ s.size ≤ 12000 then s.extract 0 500 else if 12001 < s.size then s.extract 0 12001 else s
theorem fewK_le (s : ByteArray) : (fewK s).size ≤ 12001 := by
  unfold fewK
  split
  · rw [size_cut _ (by omega)]; omega
  · split
    · rw [size_cut _ (by omega)]; omega
    · omega
set_option maxHeartbeats 2000000 in
theorem few_any (s : ByteArray) (w : World) (hs : s.size ≤ maxLen) : Calls Try.prog 10 #[.string s] w fun e w' => e = .returned (.string (fewK s)) ∧ D w w' := by
  have hs2 : s.size ≤ 9223372036854775807 := by unfold maxLen at hs; omega
  clear hs
  by_cases h1 : 500 < s.size
  · by_cases h2 : s.size ≤ 12000
    · have HV : Hid (fewK s = s.extract 0 500) := Lib.hid (by rw [fewK, if_pos ⟨h1, h2⟩])
      have h1' : (500 : Int) < (s.size : Int) := by omega
      have h2' : (s.size : Int) ≤ 12000 := by omega
      have h3 : (500 : Int) ≤ (s.size : Int) := by omega
      have h4 : 500 ≤ s.size := by omega
      have h5 : decide (500 < s.size) = true := by simp; omega
      have h6 : decide (s.size ≤ 12000) = true := by simp; omega
      go_enter Try.func10, Try.ntmps10
      go_wp2
      go_ret
      exact ⟨by rw [HV.out]; rfl, D.refl _⟩
    · by_cases h3 : 12001 < s.size
      · have HV : Hid (fewK s = s.extract 0 12001) := Lib.hid (by rw [fewK, if_neg (by omega), if_pos h3])
        have h1' : (500 : Int) < (s.size : Int) := by omega
        have h2' : ¬ (s.size : Int) ≤ 12000 := by omega
        have h3' : (12001 : Int) < (s.size : Int) := by omega
        have h4 : 12001 ≤ s.size := by omega
        have h4' : (12001 : Int) ≤ (s.size : Int) := by omega
        have h5 : decide (500 < s.size) = true := by simp; omega
        have h6 : decide (s.size ≤ 12000) = false := by simp; omega
        go_enter Try.func10, Try.ntmps10
        go_wp2
        go_ret
        exact ⟨by rw [HV.out]; rfl, D.refl _⟩
      · have HV : Hid (fewK s = s) := Lib.hid (by rw [fewK, if_neg (by omega), if_neg h3])
        have h1' : (500 : Int) < (s.size : Int) := by omega
        have h2' : ¬ (s.size : Int) ≤ 12000 := by omega
        have h3' : ¬ (12001 : Int) < (s.size : Int) := by omega
        have h5 : decide (500 < s.size) = true := by simp; omega
        have h6 : decide (s.size ≤ 12000) = false := by simp; omega
        go_enter Try.func10, Try.ntmps10
        go_wp2
        go_ret
        exact ⟨by rw [HV.out]; rfl, D.refl _⟩
  · have HV : Hid (fewK s = s) := Lib.hid (by rw [fewK, if_neg (by omega), if_neg (by omega)])
    have h1' : ¬ (500 : Int) < (s.size : Int) := by omega
    have h3' : ¬ (12001 : Int) < (s.size : Int) := by omega
    have h5 : decide (500 < s.size) = false := by simp; omega
    go_enter Try.func10, Try.ntmps10
    go_wp2
    go_ret
    exact ⟨by rw [HV.out]; rfl, D.refl _⟩
theorem wpList_snoc_txt {ops : Array Oper} {rest : List Oper} {o : Oper} {a : Act} {Q' : Exit → Act → World → Prop} (w : World) (hgd : o.guard = none) (s x : Operand)
    (ho : o.op = .call { callee := .builtin .append, args := #[s, x], argTypes := #[28, 28] })
    (base g : Nat) (v : Value) (l : List ByteArray) (y : ByteArray) {c : Nat} (hs : a.eval s = v) (hx : a.eval x = .slice (some ⟨g, 0, none⟩) 1 c) (hgg : w.cell? ⟨g, 0, none⟩ = some (.string y)) (h : OwnT base w v l)
    (hb : base ≤ w.heap.size) (hl : l.length ≤ 4000000)
    (k : ∀ v' w', Hid (OwnT base w' v' (l ++ [y])) → Hid (w.grownBy w' v.ownBlock) → wpList Try.prog ops Q' rest (a.put o.dst v') w') : wpList Try.prog ops Q' (o :: rest) a w :=
  wpList_plain hgd fun K hK => wp_snoc_txt w s x ho base g v l y hs hx hgg h hb hl fun v' w' h1 h2 => hK _ _ (k v' w' (Lib.hid h1) (Lib.hid h2))
def strL : Value → Nat
  | .string t => t.size
  | _ => 0
theorem cutK_take (s : ByteArray) (i : Nat) (h : 64 * i + 64 ≤ s.size) : (cutK s).take (i + 1) = (cutK s).take i ++ [s.extract (64 * i) (64 * i + 64)] := by
  have h2 : i < (cutK s).length := by rw [cutK_length]; omega
  rw [List.take_succ_eq_append_getElem h2, cutK_get]
theorem cutK_all (s : ByteArray) (i : Nat) (h : s.size < 64 * i + 64) : (cutK s).take i = cutK s := List.take_of_length_le (by rw [cutK_length]; omega)
set_option maxHeartbeats 4000000 in
theorem cut_any (s : ByteArray) (w : World) (hs : s.size ≤ 1000000) : Calls Try.prog 21 #[.string s] w fun e w' => ∃ A c, e = .returned (.slice A (cutK s).length c) ∧ OwnT w.heap.size w' (.slice A (cutK s).length c) (cutK s) ∧ Q w w' := by
  obtain ⟨PO, hPO⟩ : ∃ PO, PO = fun (e : Ending) (w' : World) => ∃ A c, e = .returned (.slice A (cutK s).length c) ∧ OwnT w.heap.size w' (.slice A (cutK s).length c) (cutK s) ∧ Q w w' := ⟨_, rfl⟩
  rw [← hPO]
  have HPO : Hid (∀ A n c w', OwnT w.heap.size w' (.slice A n c) (cutK s) → Q w w' → PO (.returned (.slice A n c)) w') := Lib.hid (by
    intro A n c w' h1 h2
    rw [hPO]
    obtain ⟨A', c', e, -⟩ := h1.form
    injection e with e1 e2 e3
    subst e2
    exact ⟨A, c, rfl, h1, h2⟩)
  clear hPO
  obtain ⟨N, hN⟩ : ∃ N, N = s.size := ⟨_, rfl⟩
  have HN := Lib.hid hN
  rw [← hN] at hs
  have HT := Lib.hid (fun i h => cutK_take s i h)
  have HE := Lib.hid (fun i h => cutK_all s i h)
  have HL := Lib.hid (cutK_length s)
  go_enter Try.func21, Try.ntmps21
  go_wp2_with fail
  go_loopw [0, 3] (fun S O wr => ∃ (i : Nat) (t : ByteArray), S = .string t ∧ t.size = N - 64 * i ∧ 64 * i ≤ N ∧ Hid (t = s.extract (64 * i) N) ∧ Hid (OwnT w.heap.size wr O ((cutK s).take i)) ∧ Hid (Q w wr)) (fun S _ _ => strL S)
  case atStart => exact ⟨0, s, rfl, by omega, by omega, Lib.hid (by rw [hN]; apply bl_inj; rw [bl_extract]; simp [← bl_length]), Lib.hid (OwnT.nil _ _), Lib.hid (Q.refl _)⟩
  case round =>
    obtain ⟨i, t, rfl, ht, hi, HS, HO, HQ⟩ := hrel
    obtain ⟨A2, c2, rfl, hc2⟩ := HO.out.form
    clear hN
    have HTS := Lib.hid ht
    by_cases hlt : 64 ≤ t.size
    · have h1 : (64 : Int) ≤ (t.size : Int) := by omega
      have HX : Hid (t.extract 0 64 = s.extract (64 * i) (64 * i + 64)) := Lib.hid (by rw [HS.out, cut_cut, Nat.min_eq_left (by omega)]; simp)
      have HY : Hid (t.extract 64 t.size = s.extract (64 * (i + 1)) N) := Lib.hid (by
        conv => lhs; rw [ht, HS.out]
        rw [cut_cut, Nat.min_eq_right (by omega)]
        congr 1)
      have HT2 := Lib.hid (HT.out i (by rw [← HN.out]; omega))
      have hlen : ((cutK s).take i).length ≤ 4000000 := by have := HL.out; have := HN.out; rw [List.length_take]; omega
      obtain ⟨X, hX⟩ : ∃ X, X = t.extract 0 64 := ⟨_, rfl⟩
      have hY2 : (t.extract 64 t.size).size = t.size - 64 := by rw [size_cut _ (Nat.le_refl _)]
      have hX64 : t.extract 0 64 = X := hX.symm
      have oa := Lib.hid (HO.out.on ((Q.refl wr).alloc (.cells #[.string X] 9)))
      have cx : (wr.alloc (.cells #[.string X] 9)).cell? ⟨wr.heap.size, 0, none⟩ = some (.string X) := (Bx.new wr 9 #[.string X]).cell 0
      have CX := Lib.hid cx
      have hws : w.heap.size ≤ (wr.alloc (.cells #[.string X] 9)).heap.size := by have := HQ.out.size; rw [World.size_alloc]; omega
      have HWS := Lib.hid hws
      have HL2 := Lib.hid hlen
      have H64 := Lib.hid hlt
      clear cx hX hws hlen ht
      go_wp2_with (at_builtin; refine wpList_snoc_txt _ rfl _ _ rfl w.heap.size wr.heap.size _ _ X rfl rfl CX.out oa.out HWS.out HL2.out ?_; intro v5 w5 ho5 hg5)
      obtain ⟨A5, c5, rfl, -⟩ := ho5.out.form
      go_roundw
      case rel =>
        refine ⟨i + 1, t.extract 64 t.size, rfl, by have := HTS.out; rw [hY2]; omega, by have := HTS.out; have := H64.out; omega, HY, Lib.hid ?_, Lib.hid ?_⟩
        · rw [HT2.out, ← HX.out, hX64]; exact ho5.out
        · exact OwnT.below (HQ.out.trans ((Q.refl wr).alloc _)) HWS.out oa.out hg5.out
      case measure => simp [strL, hY2]; have := H64.out; omega
    · have h1 : ¬ (64 : Int) ≤ (t.size : Int) := by omega
      have HA := Lib.hid (HE.out i (by rw [← HN.out]; omega))
      clear ht
      go_wp2_with fail
      have hh := HO.out
      rw [List.length_take, HA.out] at hh
      exact HPO.out _ _ _ _ hh HQ.out
def blksK (l : List ByteArray) : List ByteArray := (l.take 40).map fun s => if 65 < s.size then s.extract 0 65 else s
theorem blksK_len (l : List ByteArray) : (blksK l).length ≤ 40 := by rw [blksK, List.length_map, List.length_take]; omega
theorem blksK_take (l : List ByteArray) (i : Nat) (h : i < l.length) (h2 : i < 40) : (blksK l).take (i + 1) = (blksK l).take i ++ [if 65 < l[i].size then l[i].extract 0 65 else l[i]] := by
  have h3 : i < (blksK l).length := by rw [blksK, List.length_map, List.length_take]; omega
  rw [List.take_succ_eq_append_getElem h3]
  simp [blksK]
theorem blksK_all (l : List ByteArray) (i : Nat) (h : ¬ (i < l.length ∧ i < 40)) : (blksK l).take i = blksK l := List.take_of_length_le (by rw [blksK, List.length_map, List.length_take]; omega)
set_option maxHeartbeats 4000000 in
theorem blks_law (l : List ByteArray) (v : Value) (w : World) (hl : l.length ≤ maxLen) (hs : ∀ s ∈ l, s.size ≤ maxLen) (ht : Txts w w.heap.size v l) : Calls Try.prog 19 #[v] w fun e w' => ∃ A c, e = .returned (.slice A (blksK l).length c) ∧ OwnT w.heap.size w' (.slice A (blksK l).length c) (blksK l) ∧ Q w w' := by
  obtain ⟨PO, hPO⟩ : ∃ PO, PO = fun (e : Ending) (w' : World) => ∃ A c, e = .returned (.slice A (blksK l).length c) ∧ OwnT w.heap.size w' (.slice A (blksK l).length c) (blksK l) ∧ Q w w' := ⟨_, rfl⟩
  rw [← hPO]
  have HPO : Hid (∀ A n c w', OwnT w.heap.size w' (.slice A n c) (blksK l) → Q w w' → PO (.returned (.slice A n c)) w') := Lib.hid (by
    intro A n c w' h1 h2
    rw [hPO]
    obtain ⟨A', c', e, -⟩ := h1.form
    injection e with e1 e2 e3
    subst e2
    exact ⟨A, c, rfl, h1, h2⟩)
  clear hPO
  have hl2 : l.length ≤ 9223372036854775807 := by unfold maxLen at hl; omega
  have HS := Lib.hid hs
  have HT := Lib.hid ht
  obtain ⟨A, c, rfl, -⟩ := ht
  have HTK := Lib.hid (fun i h h2 => blksK_take l i h h2)
  have HE := Lib.hid (fun i h => blksK_all l i h)
  have HBL := Lib.hid (blksK_len l)
  clear hs hl
  go_enter Try.func19, Try.ntmps19
  go_wp2_with fail
  go_loopw [3, 4] (fun O I wr => ∃ i : Nat, i ≤ l.length ∧ i ≤ 40 ∧ I = .int .i64 i ∧ Hid (OwnT w.heap.size wr O ((blksK l).take i)) ∧ Hid (Q w wr)) (fun _ I _ => 40 - (intOf I).toNat)
  case atStart => exact ⟨0, Nat.zero_le _, Nat.zero_le _, rfl, Lib.hid (OwnT.nil _ _), Lib.hid (Q.refl _)⟩
  case round =>
    obtain ⟨i, hi, hi4, rfl, HO, HQ⟩ := hrel
    obtain ⟨A2, c2, rfl, hc2⟩ := HO.out.form
    by_cases hlt : i < l.length ∧ i < 40
    · obtain ⟨h1, h2⟩ := hlt
      have h1' : (i : Int) < (l.length : Int) := by omega
      have h2' : (i : Int) < 40 := by omega
      obtain ⟨A', c', e, f⟩ := HT.out
      injection e with e1 e2 e3
      subst e1 e3
      obtain ⟨a, rfl, ha, hc⟩ := f i h1
      have hat : wr.cell? (a.add i) = some (.string l[i]) := (HQ.out.cell (by rw [add_block]; exact ha)).trans hc
      have HT2 := Lib.hid (HTK.out i h1 h2)
      have hyz : l[i].size ≤ maxLen := HS.out _ (List.getElem_mem h1)
      obtain ⟨y, hy⟩ : ∃ y, y = l[i] := ⟨_, rfl⟩
      rw [← hy] at hat HT2 hyz
      have hyz2 : y.size ≤ 9223372036854775807 := by unfold maxLen at hyz; omega
      have HLN : Hid (((blksK l).take i).length ≤ 4000000) := Lib.hid (by rw [List.length_take]; omega)
      have hws := HQ.out.size
      have d1 : decide (i < l.length) = true := by simp; omega
      have d2 : decide (i < 40) = true := by simp; omega
      clear hy hyz f hc
      obtain ⟨X, hX⟩ : ∃ X, X = if 65 < y.size then y.extract 0 65 else y := ⟨_, rfl⟩
      rw [← hX] at HT2
      have oa := Lib.hid (HO.out.on ((Q.refl wr).alloc (.cells #[.string X] 9)))
      have CX : Hid ((wr.alloc (.cells #[.string X] 9)).cell? ⟨wr.heap.size, 0, none⟩ = some (.string X)) := Lib.hid ((Bx.new wr 9 #[.string X]).cell 0)
      have HWS : Hid (w.heap.size ≤ (wr.alloc (.cells #[.string X] 9)).heap.size) := Lib.hid (by rw [World.size_alloc]; omega)
      by_cases h65 : 65 < y.size
      · have h65' : (65 : Int) < (y.size : Int) := by omega
        have h65b : (65 : Int) ≤ (y.size : Int) := by omega
        have h65c : 65 ≤ y.size := by omega
        have hX2 : y.extract 0 65 = X := by rw [hX, if_pos h65]
        clear hX
        go_wp2_with (at_builtin; refine wpList_snoc_txt _ rfl _ _ rfl w.heap.size wr.heap.size _ _ X rfl rfl CX.out oa.out HWS.out HLN.out ?_; intro v5 w5 ho5 hg5)
        obtain ⟨A5, c5, rfl, -⟩ := ho5.out.form
        go_roundw
        case rel => exact ⟨i + 1, by omega, by omega, by go_num, Lib.hid (by rw [HT2.out]; exact ho5.out), Lib.hid (OwnT.below (HQ.out.trans ((Q.refl wr).alloc _)) HWS.out oa.out hg5.out)⟩
        case measure => simp [intOf]; omega
      · have h65' : ¬ (65 : Int) < (y.size : Int) := by omega
        obtain rfl : X = y := by rw [hX, if_neg h65]
        clear hX
        go_wp2_with (at_builtin; refine wpList_snoc_txt _ rfl _ _ rfl w.heap.size wr.heap.size _ _ X rfl rfl CX.out oa.out HWS.out HLN.out ?_; intro v5 w5 ho5 hg5)
        obtain ⟨A5, c5, rfl, -⟩ := ho5.out.form
        go_roundw
        case rel => exact ⟨i + 1, by omega, by omega, by go_num, Lib.hid (by rw [HT2.out]; exact ho5.out), Lib.hid (OwnT.below (HQ.out.trans ((Q.refl wr).alloc _)) HWS.out oa.out hg5.out)⟩
        case measure => simp [intOf]; omega
    · have HA := Lib.hid (HE.out i hlt)
      have hh := HO.out
      rw [List.length_take, HA.out] at hh
      rw [List.length_take]
      have HH := Lib.hid hh
      clear hh hc2
      by_cases h1 : i < l.length
      · have h2 : ¬ i < 40 := fun h => hlt ⟨h1, h⟩
        have h1' : (i : Int) < (l.length : Int) := by omega
        have h2' : ¬ (i : Int) < 40 := by omega
        have d1 : decide (i < l.length) = true := by simp; omega
        have d2 : decide (i < 40) = false := by simp; omega
        clear hlt
        go_wp2_with fail
        exact HPO.out _ _ _ _ HH.out HQ.out
      · have h1' : ¬ (i : Int) < (l.length : Int) := by omega
        have d1 : decide (i < l.length) = false := by simp; omega
        clear hlt
        go_wp2_with fail
        exact HPO.out _ _ _ _ HH.out HQ.out
theorem join_step (l : List ByteArray) (j : Nat) (h : j < l.length) : joinK (l.take j) ++ l[j] = joinK (l.take (j + 1)) := by
  apply bl_inj
  rw [bl_append, join_bl, join_bl, List.take_succ_eq_append_getElem h, List.flatMap_append, List.flatMap_singleton]
theorem join_le (l : List ByteArray) (h : ∀ b ∈ l, b.size ≤ 65) (j : Nat) : (joinK (l.take j)).size ≤ 65 * l.length := by
  have key : ∀ (m : List ByteArray), (∀ b ∈ m, b.size ≤ 65) → (joinK m).size ≤ 65 * m.length := by
    intro m
    induction m with
    | nil => intro _; exact Nat.le_refl _
    | cons b r ih =>
      intro hm
      have h1 := ih (fun x hx => hm x (List.mem_cons_of_mem _ hx))
      have h2 := hm b (List.mem_cons_self ..)
      rw [joinK, mk_size] at h1 ⊢
      rw [List.flatMap_cons, List.length_append, bl_length, List.length_cons]; omega
  have := key (l.take j) (fun b hb => h b (List.mem_of_mem_take hb))
  rw [List.length_take] at this
  have : 65 * min j l.length ≤ 65 * l.length := Nat.mul_le_mul_left _ (Nat.min_le_right _ _)
  omega
set_option maxHeartbeats 4000000 in
theorem join_any (l : List ByteArray) (v : Value) (w : World) (hl : l.length ≤ 1000000) (hs : ∀ s ∈ l, s.size ≤ 65) (ht : Txts w w.heap.size v l) : Calls Try.prog 17 #[v] w fun e w' => e = .returned (.string (joinK l)) ∧ D w w' := by
  have HS := Lib.hid hs
  have HT := Lib.hid ht
  obtain ⟨A, c, rfl, -⟩ := ht
  have HJ := Lib.hid (fun j h => join_step l j h)
  have HJL := Lib.hid (join_le l hs)
  clear hs
  go_enter Try.func17, Try.ntmps17
  go_wp2_with fail
  go_loopw [3, 4] (fun S I wr => ∃ i : Nat, i ≤ l.length ∧ I = .int .i64 i ∧ S = .string (joinK (l.take i)) ∧ Hid (D w wr)) (fun _ I _ => l.length - (intOf I).toNat)
  case atStart => exact ⟨0, Nat.zero_le _, rfl, rfl, Lib.hid (D.refl _)⟩
  case round =>
    obtain ⟨i, hi, rfl, rfl, HD⟩ := hrel
    by_cases hlt : i < l.length
    · have h1' : (i : Int) < (l.length : Int) := by omega
      obtain ⟨A', c', e, f⟩ := HT.out
      injection e with e1 e2 e3
      subst e1 e3
      obtain ⟨a, rfl, ha, hc⟩ := f i hlt
      have hat : wr.cell? (a.add i) = some (.string l[i]) := (HD.out.q.cell (by rw [add_block]; exact ha)).trans hc
      have HJ2 := HJ.out i hlt
      have hyz : l[i].size ≤ 65 := HS.out _ (List.getElem_mem hlt)
      have hjl := HJL.out i
      obtain ⟨y, hy⟩ : ∃ y, y = l[i] := ⟨_, rfl⟩
      rw [← hy] at hat HJ2 hyz
      obtain ⟨J, hJ⟩ : ∃ J, J = joinK (l.take i) := ⟨_, rfl⟩
      rw [← hJ] at HJ2 hjl ⊢
      have hsum : J.size + y.size ≤ 100000000 := by omega
      have HJ3 := Lib.hid HJ2
      clear hy hJ f hc HJ2
      go_wp2_with fail
      go_roundw
      case rel => exact ⟨i + 1, by omega, by go_num, by rw [HJ3.out], HD⟩
      case measure => simp [intOf]; omega
    · obtain rfl : i = l.length := by omega
      rw [List.take_length]
      go_wp2_with fail
      go_ret
      exact ⟨rfl, HD.out⟩
end Go.Proofs.Ytpcanlafbcdmcaa
