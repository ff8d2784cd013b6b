/-
  Contract of the document's Things.
-/
import Derived.Test.YtipipjpdlblifaaGBox
namespace Go.Proofs.Ytipipjpdlblifaa
open Go.ChangeShapes Go.WideShapes Go.ChangeAt Go.RowKit
set_option linter.unusedVariables false
set_option linter.unusedSimpArgs false

/-- The things' texts. -/
def thN (p d : ByteArray) (l : List Ent) : List ByteArray := (thgs p d l).map (·.1)
/-- What one more key adds: nothing, or a text behind all. -/
theorem thN_step {p d : ByteArray} {l : List Ent} (hR : okI l) (hp : hasO 0 60 ko p = true) (hd : hasO 0 1 ko d = true) {i : Nat} (hi : i < l.length) (h : isT p l[i] = true) :
    (((tgO l[i].key p d).1 ∈ thN p d (l.take i) → thN p d (l.take (i + 1)) = thN p d (l.take i)) ∧ (¬ (tgO l[i].key p d).1 ∈ thN p d (l.take i) → thN p d (l.take (i + 1)) = thN p d (l.take i) ++ [(tgO l[i].key p d).1])) ∧
    (∀ y ∈ thN p d (l.take i), y = (tgO l[i].key p d).1 ∨ ltB y (tgO l[i].key p d).1 = true) ∧ (thN p d (l.take i)).Pairwise (fun a b => ltB a b = true) ∧ (thN p d (l.take i)).length ≤ i := by
  obtain ⟨-, hr, hall⟩ := okI_iff.1 hR
  have F := thF hr (fun e he => (hall e he).1) hp hd i (by omega)
  have G := thF hr (fun e he => (hall e he).1) hp hd (i + 1) (by omega)
  have K := thK (hall _ (List.getElem_mem hi)).1 hp hd (isT_iff.1 h).1
  have hlen : (thN p d (l.take i)).length ≤ i := by rw [thN, List.length_map]; exact thgs_len p d l i
  have hrise : (thN p d (l.take i)).Pairwise (fun a b => ltB a b = true) := List.pairwise_map.2 F.rise
  have S := thgs_succ p d hi
  by_cases q : lastT (thgs p d (l.take i)) = (tgO l[i].key p d).1
  · rw [stepT_same h q] at S
    obtain ⟨A, y, hA, hy⟩ := last_of q K.pos
    have hin : (tgO l[i].key p d).1 ∈ thN p d (l.take i) := by rw [thN, hA]; simp [hy]
    refine ⟨⟨fun _ => by rw [thN, S]; rfl, fun h => absurd hin h⟩, fun z hz => ?_, hrise, hlen⟩
    rw [thN, hA, List.map_append, List.mem_append] at hz
    rcases hz with hz | hz
    · right
      rw [← hy]
      obtain ⟨a, ha, rfl⟩ := List.mem_map.1 hz
      have r := F.rise
      rw [hA] at r
      exact (List.pairwise_append.1 r).2.2 a ha y (by simp)
    · left; simpa [hy] using hz
  · rw [stepT_more h q] at S
    have r := G.rise
    rw [S] at r
    have hlow : ∀ z ∈ thN p d (l.take i), ltB z (tgO l[i].key p d).1 = true := by
      intro z hz
      obtain ⟨a, ha, rfl⟩ := List.mem_map.1 hz
      exact (List.pairwise_append.1 r).2.2 a ha _ (by simp)
    have hno : ¬ (tgO l[i].key p d).1 ∈ thN p d (l.take i) := fun hz => by have := hlow _ hz; rw [ltB_irrefl] at this; cases this
    exact ⟨⟨fun h => absurd h hno, fun _ => by rw [thN, S, List.map_append]; rfl⟩, fun z hz => .inr (hlow z hz), hrise, hlen⟩
theorem thN_skip {p d : ByteArray} {l : List Ent} {i : Nat} (hi : i < l.length) (h : isT p l[i] = false) : thN p d (l.take (i + 1)) = thN p d (l.take i) := by
  rw [thN, thgs_succ p d hi, stepT_no h]; rfl
/-- A text stands among those ahead of place k. -/
theorem in_no {T : List ByteArray} {t : ByteArray} {k : Nat} (hT : T.Pairwise (fun a b => ltB a b = true)) (hl : ∀ y ∈ T, y = t ∨ ltB y t = true) (hk : k < T.length) : ¬ t ∈ T.take k := by
  intro h
  obtain ⟨j, hj, e⟩ := List.getElem_of_mem h
  rw [List.length_take] at hj
  rw [List.getElem_take] at e
  have h1 := (List.pairwise_iff_getElem.1 hT) j k (by omega) hk (by omega)
  rw [e] at h1
  rcases hl _ (List.getElem_mem hk) with h2 | h2
  · rw [h2, ltB_irrefl] at h1; cases h1
  · rw [ltB_asymm h1] at h2; cases h2
theorem in_step {T : List ByteArray} {t : ByteArray} {k : Nat} (hk : k < T.length) : t ∈ T.take (k + 1) ↔ t ∈ T.take k ∨ t = T[k] := by
  rw [List.take_succ_eq_append_getElem hk, List.mem_append, List.mem_singleton]
theorem geq_form (a b : ByteArray) : (!(Op.bytesLess a.toList b.toList)) = !(ltB a b) := rfl

set_option maxHeartbeats 8000000 in
set_option maxRecDepth 100000 in
theorem rthings_any (l : List Ent) (v : Value) (p d : ByteArray) (w : World) (hR : okI l) (hs : Small l) (hp : hasO 0 60 ko p = true) (hd : hasO 0 1 ko d = true) (ht : Ents w w.heap.size v l) :
    Calls Try.prog 16 #[v, .string p, .string d] w fun e w' => ∃ A' c', e = .returned (.slice A' (thN p d l).length c') ∧ (∀ a, A' = some a → w.heap.size ≤ a.block) ∧ Txts w' w'.heap.size (.slice A' (thN p d l).length c') (thN p d l) ∧ Q w w' := by
  have hpz := (hasO_size hp).2
  have hdz := (hasO_size hd).2
  have hl := hR.1
  have HT := Lib.hid ht
  have HS := Lib.hid hs
  have HR := Lib.hid hR
  have STEP := Lib.hid (fun i (hi : i < l.length) => thN_step hR hp hd hi)
  obtain ⟨i0, hi, hz0, hz1, hz2⟩ := info_parts info_str
  obtain ⟨A, c, rfl⟩ := ht.form
  clear ht hs hR hp hd
  go_enter Try.func16, Try.ntmps16
  go_wp2_with fail
  go_loopw [7, 8] (fun V I wr => ∃ (i : Nat) (A1 : Option Addr) (c1 : Nat), i ≤ l.length ∧ I = .int .i64 i ∧ V = .slice A1 (thN p d (l.take i)).length c1 ∧ (∀ a, A1 = some a → w.heap.size ≤ a.block) ∧ Txts wr wr.heap.size (.slice A1 (thN p d (l.take i)).length c1) (thN p d (l.take i)) ∧ Q w wr) (fun _ I _ => l.length - (intOf I).toNat)
  case atStart => exact ⟨0, none, 0, Nat.zero_le _, rfl, rfl, (by simp), Txts.nil _ _, Q.refl _⟩
  case round =>
    obtain ⟨i, A1, c1, hil, rfl, rfl, hA1, htx, q⟩ := hrel
    by_cases hlt : i < l.length
    · obtain ⟨a, c', hv, ha, A2, c2, hvs, hat⟩ := HT.out.pick i hlt
      injection hv with e1 e2 e3
      subst e1 e3
      obtain ⟨d0, d1⟩ := hat _ q
      have hilt : (i : Int) < (l.length : Int) := by omega
      have TH := rthing_any l[i] (.slice A2 l[i].L.length c2) p d wr (by have := (okI_iff.1 HR.out).2.2 _ (List.getElem_mem hlt); exact this.2.1) (HS.out.2 _ (List.getElem_mem hlt)).1 (by omega) (by omega) (hvs.on q)
      have HO := Lib.hid (show thO l[i] p d = if isT p l[i] then ((tgO l[i].key p d).1, true) else (⟨#[]⟩, false) from rfl)
      have ST := Lib.hid (STEP.out i hlt)
      have SK : Hid (isT p l[i] = false → thN p d (l.take (i + 1)) = thN p d (l.take i)) := Lib.hid (fun h => thN_skip hlt h)
      obtain ⟨x, hx⟩ : ∃ x, x = l[i].key := ⟨_, rfl⟩
      obtain ⟨n2, hn2⟩ : ∃ n2, n2 = l[i].L.length := ⟨_, rfl⟩
      obtain ⟨B, hB⟩ : ∃ B, B = isT p l[i] := ⟨_, rfl⟩
      obtain ⟨T, hT⟩ : ∃ T, T = thN p d (l.take i) := ⟨_, rfl⟩
      obtain ⟨T2, hT2⟩ : ∃ T2, T2 = thN p d (l.take (i + 1)) := ⟨_, rfl⟩
      obtain ⟨t, ht⟩ : ∃ t, t = (tgO l[i].key p d).1 := ⟨_, rfl⟩
      rw [← hB] at SK ST
      rw [← hB, ← ht] at HO
      rw [← hT, ← hT2, ← ht] at ST
      rw [← hT, ← hT2] at SK
      rw [← hT] at htx ⊢
      rw [← hx, ← hn2] at TH
      rw [← hx] at d0
      rw [← hn2] at d1
      rw [HO.out] at TH
      have HT2 := Lib.hid hT2
      have HTH := Lib.hid TH
      have qT := Lib.hid htx
      clear hat hvs hx hn2 hB hT hT2 ht TH htx HO
      cases B with
      | false =>
        have HV := Lib.hid (SK.out rfl)
        clear SK ST
        go_wp2_with fail
        refine HTH.out.mono ?_
        rintro e w1 ⟨rfl, q1⟩
        go_wp2
        go_roundw
        case rel =>
          have := qT.out.on q1
          exact ⟨i + 1, A1, c1, by omega, by go_num, by rw [← HT2.out, HV.out], hA1, by rw [← HT2.out, HV.out]; exact this, q.trans q1⟩
        case measure => simp [intOf]; omega
      | true =>
        obtain ⟨s1, s2, s3, s4⟩ := ST.out rfl
        have HV := Lib.hid s1
        have NOK := Lib.hid (fun k (hk : k < T.length) => in_no s3 s2 hk)
        have LOW := Lib.hid s2
        clear SK ST s1 s2 s3
        go_wp2_with fail
        refine HTH.out.mono ?_
        rintro e w1 ⟨rfl, q1⟩
        have q01 := q.trans q1
        have tx := Lib.hid (qT.out.on q1)
        clear q1 HTH qT d0 d1
        go_wp2_with fail
        go_loopw [11, 12, 13] (fun N D K wr2 => ∃ (k : Nat) (b : Bool), k ≤ T.length ∧ K = .int .i64 k ∧ D = .bool b ∧ Hid (b = true ↔ t ∈ T.take k) ∧ RowS w1.heap.size wr2 N (T.take k) ∧ Q w1 wr2) (fun _ _ K _ => T.length - (intOf K).toNat)
        case atStart => exact ⟨0, false, Nat.zero_le _, rfl, rfl, Lib.hid (by simp), RowS.nil _ _, Q.refl _⟩
        case round =>
          obtain ⟨k, b, hkl, rfl, rfl, HD, hr, q2⟩ := hrel
          by_cases hlk : k < T.length
          · obtain rfl : b = false := by
              cases b with
              | false => rfl
              | true => exact absurd (HD.out.1 rfl) (NOK.out k hlk)
            obtain ⟨a1, c1', hv1, hlc⟩ := tx.out
            injection hv1 with e1 e2 e3
            subst e1 e3
            obtain ⟨a, rfl, ha, hcell⟩ := hlc k hlk
            have c0 := (q2.cell (p := a.add k) (by rw [add_block]; exact ha)).trans hcell
            have hklt : (k : Int) < (T.length : Int) := by omega
            have hlow := LOW.out _ (List.getElem_mem hlk)
            have HST : Hid (∀ b' : Bool, (b' = true ↔ T[k] = t) → (b' = true ↔ t ∈ T.take (k + 1))) := Lib.hid (fun b' h => by
              rw [h, in_step hlk]
              exact ⟨fun e => .inr e.symm, fun e => e.elim (fun e => absurd e (NOK.out k hlk)) (fun e => e.symm)⟩)
            have HR2 : Hid (∀ wx N, RowS w1.heap.size wx N (T.take k ++ [T[k]]) → RowS w1.heap.size wx N (T.take (k + 1))) := Lib.hid (fun wx N h => by rwa [List.take_succ_eq_append_getElem hlk])
            obtain ⟨y, hy⟩ : ∃ y, y = T[k] := ⟨_, rfl⟩
            obtain ⟨M, hM⟩ : ∃ M, M = T.take k := ⟨_, rfl⟩
            have hMl : M.length ≤ 60 := by rw [hM, List.length_take]; omega
            rw [← hy] at c0 hlow HST HR2
            rw [← hM] at hr HR2
            have hw1 := q2.size
            clear hcell hy hM HD hlc
            by_cases hyt : y = t
            · have g1 : (!(Op.bytesLess y.toList t.toList)) = true := by rw [geq_form, hyt, ltB_irrefl]; rfl
              have g2 : (!(Op.bytesLess y.toList t.toList || y.toList == t.toList)) = false := by rw [gtr_form, hyt, ltB_irrefl]
              have HB := Lib.hid (HST.out true (by simp [hyt]))
              clear hlow hyt HST
              go_wp2_with (at_builtin; refine wpList_append_own _ rfl _ _ 27 rfl w1.heap.size 9 i0 (.string ⟨#[]⟩) 1 16 Try.underlying27 hi hz0 hz1 hz2 rfl (by decide) _ _ _ rfl (World.ownsRow.alloc hr _) ⟨wr.heap.size, 0, none⟩ 1 1 [.string y] rfl rfl (cell_one_new _ _ _) (by simp [Value.oneCell']) (by unfold maxLen; omega) (by omega) (by simp; omega) ?_; intro v' w3 hown' hgrow _; obtain ⟨r1, r2, r3, r4⟩ := rowS_more hr hw1 hown' hgrow; clear hown' hgrow)
              go_roundw
              case rel => exact ⟨k + 1, true, by omega, by go_num, rfl, HB, HR2.out _ _ r1, Below.trans q2 r4⟩
              case measure => simp [intOf]; omega
            · have hl2 : ltB y t = true := hlow.resolve_left hyt
              have g1 : (!(Op.bytesLess y.toList t.toList)) = false := by rw [geq_form, hl2]; rfl
              have HB := Lib.hid (HST.out false (by simp [hyt]))
              clear hlow hyt HST hl2
              go_wp2_with (at_builtin; refine wpList_append_own _ rfl _ _ 27 rfl w1.heap.size 9 i0 (.string ⟨#[]⟩) 1 16 Try.underlying27 hi hz0 hz1 hz2 rfl (by decide) _ _ _ rfl (World.ownsRow.alloc hr _) ⟨wr.heap.size, 0, none⟩ 1 1 [.string y] rfl rfl (cell_one_new _ _ _) (by simp [Value.oneCell']) (by unfold maxLen; omega) (by omega) (by simp; omega) ?_; intro v' w3 hown' hgrow _; obtain ⟨r1, r2, r3, r4⟩ := rowS_more hr hw1 hown' hgrow; clear hown' hgrow)
              go_roundw
              case rel => exact ⟨k + 1, false, by omega, by go_num, rfl, HB, HR2.out _ _ r1, Below.trans q2 r4⟩
              case measure => simp [intOf]; omega
          · obtain rfl : k = T.length := by omega
            rw [List.take_length] at hr HD
            have hw1 := q2.size
            obtain ⟨a1, c1', hv1, -⟩ := tx.out
            cases b with
            | true =>
              have HE := Lib.hid (HV.out.1 (HD.out.1 rfl))
              have ho := Lib.hid hr.txts
              obtain ⟨A3, c3, rfl, hA3⟩ := hr.form2
              clear hr HV HD
              go_wp2
              go_roundw
              case rel => exact ⟨i + 1, A3, c3, by omega, by go_num, by rw [← HT2.out, HE.out], (fun a h => Nat.le_trans q01.size (hA3 a h)), by rw [← HT2.out, HE.out]; exact ho.out, q01.trans q2⟩
              case measure => simp [intOf]; omega
            | false =>
              have HE := Lib.hid (HV.out.2 (fun h => by have := HD.out.2 h; cases this))
              clear HV HD
              go_wp2_with (at_builtin; refine wpList_append_own _ rfl _ _ 27 rfl w1.heap.size 9 i0 (.string ⟨#[]⟩) 1 16 Try.underlying27 hi hz0 hz1 hz2 rfl (by decide) _ _ _ rfl (World.ownsRow.alloc hr _) ⟨wr.heap.size, 0, none⟩ 1 1 [.string t] rfl rfl (cell_one_new _ _ _) (by simp [Value.oneCell']) (by unfold maxLen; omega) (by omega) (by simp; omega) ?_; intro v' w3 hown' hgrow _; obtain ⟨r1, r2, r3, r4⟩ := rowS_more hr hw1 hown' hgrow; have ho := Lib.hid r1.txts; obtain ⟨A3, c3, rfl, hA3⟩ := r1.form2; clear hown' hgrow)
              go_roundw
              case rel => exact ⟨i + 1, A3, c3, by omega, by go_num, by rw [← HT2.out, HE.out]; simp, (fun a h => Nat.le_trans q01.size (hA3 a h)), by rw [← HT2.out, HE.out]; exact ho.out, q01.trans (show Q w1 w3 from Below.trans q2 r4)⟩
              case measure => simp [intOf]; omega
    · obtain rfl : i = l.length := by omega
      have hh := Lib.hid htx
      clear htx
      go_wp2
      go_ret
      have := hh.out
      simp only [List.take_length] at this ⊢
      exact ⟨_, _, rfl, hA1, this, q⟩
end Go.Proofs.Ytipipjpdlblifaa
