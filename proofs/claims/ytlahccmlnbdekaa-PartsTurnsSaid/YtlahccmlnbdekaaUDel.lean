/-
  Contract of slices.Delete of one upload.
-/
import Derived.Test.YtlahccmlnbdekaaURBegin
import Derived.Deep.RegionLaw
import Derived.Lib.SliceRun
import Derived.Lib.SlicesDelete
namespace Go.Proofs.Ytlahccmlnbdekaa
open Go.ChangeShapes Go.WideShapes Go.ChangeAt Go.RowKit
set_option linter.unusedVariables false
set_option linter.unusedSimpArgs false
set_option maxRecDepth 100000

theorem grown_trans {a b c : World} {r : Option Nat} (h : a.grownBy b r) (k : b.grownBy c r) : a.grownBy c r :=
  ⟨k.os.trans h.os, k.tape.trans h.tape, k.output.trans h.output, Nat.le_trans h.size k.size, fun i hi hr => (k.block i (Nat.lt_of_lt_of_le hi h.size) hr).trans (h.block i hi hr)⟩
theorem grown_setCells (g : Nat) : ∀ (vs : List Value) (o : Nat) (w : World), w.grownBy (w.setCells g o vs) (some g)
  | [], o, w => World.grownBy.refl w _
  | v :: r, o, w => grown_trans (grown_set w g o v) (grown_setCells g r (o + 1) _)
theorem run_clear_upl (W : World) (g o c : Nat) (hc : ∀ j, j < 3 → (W.cell? ⟨g, o + j, none⟩).isSome = true) (hf : ∀ j, j < 3 → W.frozen? ⟨g, o + j, none⟩ = false) (ty : TypeId) :
    (Builtin.clear_ #[22] ty #[.slice (some ⟨g, o, none⟩) 1 c]).run Try.prog W = .ok (.tuple #[]) (W.setCells g o [.int .u64 0, .string ⟨#[]⟩, .slice none 0 0]) := by
  have hst := run_storeCells_cells (P := Try.prog) g o [.int .u64 0, .string ⟨#[]⟩, .slice none 0 0] 0 W (by simpa using hc) (by simpa using hf) (by intro v hv; simp at hv; rcases hv with rfl | rfl | rfl <;> rfl)
  simp only [Nat.add_zero] at hst
  have hz : (Builtin.zeroCells (Value.agg #[.int .u64 0, .string ⟨#[]⟩, .slice none 0 0]).cells 1).toList = [.int .u64 0, .string ⟨#[]⟩, .slice none 0 0] := by simp [Builtin.zeroCells, Value.cells]; rfl
  simp [Builtin.clear_, run_underlying Try.underlying22, Try.zeroValue40, hz, hst]
/-- A row whose cells have changed in its own block alone, read anew. -/
theorem RowU.reread {base : Nat} {w w2 : World} {g n cap : Nat} {P R : List (Upl × Value)} (r : RowU base w (.slice (some ⟨g, 0, none⟩) n cap) P) (f : ∀ p ∈ P, OwnU1 base w p) (gr : w.grownBy w2 (some g)) (hb : base ≤ w.heap.size)
    (hR : ∀ p ∈ R, p ∈ P) (hlen : R.length ≤ cap) (hcell : ∀ k (hk : k < R.length) j u, j < 3 → (ucl R[k])[j]? = some u → w2.cell? ⟨g, k * 3 + j, none⟩ = some u) (hg : g < w.heap.size) :
    Upls w2 w2.heap.size (.slice (some ⟨g, 0, none⟩) R.length cap) (R.map (·.1)) := by
  have gr' : w.grownBy w2 (Value.slice (some ⟨g, 0, none⟩) n cap).ownBlock := gr
  have f2 : ∀ p ∈ R, okU p.1 ∧ Prts w2 w2.heap.size p.2 p.1.L := fun p hp => ⟨(f p (hR p hp)).1, ((f p (hR p hp)).2.grown r gr' hb).read (Nat.le_trans hb gr.size)⟩
  refine ⟨some ⟨g, 0, none⟩, cap, by rw [List.length_map], by rw [List.length_map]; exact hlen, by simp, fun x hx => ?_, fun k hk => ⟨⟨g, 0, none⟩, rfl, Nat.lt_of_lt_of_le hg gr.size, ?_⟩⟩
  · obtain ⟨p, hp, rfl⟩ := List.mem_map.1 hx
    exact (f2 p hp).1
  · rw [List.length_map] at hk
    rw [List.getElem_map]
    refine ⟨?_, ?_, R[k].2, ?_, (f2 _ (List.getElem_mem hk)).2⟩
    · rw [addr_row0upl]; simpa using hcell k hk 0 _ (by omega) rfl
    · rw [addr_rowupl _ _ _ (by omega)]; exact hcell k hk 1 _ (by omega) rfl
    · rw [addr_rowupl _ _ _ (by omega)]; exact hcell k hk 2 _ (by omega) rfl
set_option maxHeartbeats 4000000 in
theorem deleteU_any (l : List Upl) (v : Value) (i base : Nat) (w : World) (hi : i < l.length) (hl : l.length ≤ 1000) (hb : base ≤ w.heap.size) (h : OwnU base w v l) :
    Calls Try.prog 37 #[v, .int .i64 (i : Nat), .int .i64 ((i : Int) + 1)] w fun e w' => ∃ v', e = .returned v' ∧ Upls w' w'.heap.size v' (l.take i ++ l.drop (i + 1)) ∧ Below base w w' := by
  obtain ⟨P, hP, r, f⟩ := h
  have hPl : P.length = l.length := by rw [← hP, List.length_map]
  have R0 := Lib.hid r
  have F0 := Lib.hid f
  rcases r.2 with ⟨e, h0⟩ | ⟨g, cap, cur, e, hbg, hg, hnc, hcm, hcs, htake⟩
  · omega
  · subst e
    have hglt := lt_of_block hg
    have hcell : ∀ d : World, (∀ p : Addr, p.block = g → d.cell? p = w.cell? p) → ∀ k (hk : k < P.length) j u, j < 3 → (ucl P[k])[j]? = some u → d.cell? ⟨g, k * 3 + j, none⟩ = some u := by
      intro d hd k hk j u hj hu
      rw [hd _ rfl]
      have := World.ownsRow.cells r (g := g) rfl (k * 3 + j) u (by rw [flat_atupl P k hk hj]; exact hu)
      unfold Addr.add at this
      split at this
      · rename_i h0; rw [show k * 3 + j = 0 by omega]; exact this
      · simpa using this
    obtain ⟨news, hnews⟩ : ∃ news, news = (P.drop (i + 1)).flatMap ucl := ⟨_, rfl⟩
    have hlen : news.length = (P.length - (i + 1)) * 3 := by rw [hnews, flat_ucl, List.length_drop]
    have hget : ∀ t, t < news.length → ∃ u, news[t]? = some u ∧ w.cell? ⟨g, (i + 1) * 3 + t, none⟩ = some u := by
      intro t ht
      rw [hlen] at ht
      have hk : t / 3 < (P.drop (i + 1)).length := by rw [List.length_drop]; omega
      have ht2 : t = t / 3 * 3 + t % 3 := by omega
      have e1 := flat_atupl (P.drop (i + 1)) (t / 3) hk (j := t % 3) (by omega)
      have hr : t % 3 < (ucl (P.drop (i + 1))[t / 3]).length := by show t % 3 < 3; omega
      rw [List.getElem?_eq_getElem hr] at e1
      refine ⟨_, by rw [hnews, ht2]; exact e1, ?_⟩
      have := hcell w (fun _ _ => rfl) (i + 1 + t / 3) (by omega) (t % 3) ((ucl (P.drop (i + 1))[t / 3])[t % 3]) (by omega) (by
        rw [← List.getElem?_eq_getElem hr]; simp [List.getElem_drop])
      rw [show (i + 1) * 3 + t = (i + 1 + t / 3) * 3 + t % 3 by omega]; exact this
    obtain ⟨A, hA, hsrc⟩ : ∃ A : Addr, (if cap = i + 1 then some (⟨g, 0, none⟩ : Addr) else some ⟨g, 0 + (i + 1) * 3, none⟩) = some A ∧ Hid (∀ t u, news[t]? = some u → w.drew.cell? (A.add t) = some u) := by
      by_cases h : cap = i + 1
      · refine ⟨⟨g, 0, none⟩, by simp [h], fun t u hu => ?_⟩
        have ht := (List.getElem?_eq_some_iff.1 hu).1
        rw [hlen] at ht
        omega
      · refine ⟨⟨g, 0 + (i + 1) * 3, none⟩, by simp [h], fun t u hu => ?_⟩
        obtain ⟨u', e1, e2⟩ := hget t (List.getElem?_eq_some_iff.1 hu).1
        rw [e1] at hu
        injection hu with hu
        subst hu
        rw [Addr.add_lit, Nat.zero_add]; exact e2
    have s1 : Hid (news.length = (l.length - (i + 1)) * 3) := by rw [← hPl]; exact hlen
    have s2 : Hid (∀ u ∈ news, u.oneCell' = true) := by
      rw [hnews]
      exact flat_oneupl (fun p hp => OwnU.shapes f p (List.mem_of_mem_drop hp))
    have frz : ∀ (d : World) (j : Nat), d.heap[g]? = w.heap[g]? → d.frozen? ⟨g, j, none⟩ = false := fun d j e => by simp [World.frozen?, e, hg]
    have s3 : Hid (∀ t, t < news.length → (w.drew.cell? ⟨g, 0 + i * 3 + t, none⟩).isSome = true ∧ w.drew.frozen? ⟨g, 0 + i * 3 + t, none⟩ = false) := by
      intro t ht
      rw [hlen] at ht
      refine ⟨?_, frz _ _ rfl⟩
      have hr : (i * 3 + t) % 3 < (ucl (P[(i * 3 + t) / 3]'(by omega))).length := by show _ < 3; omega
      have := hcell w (fun _ _ => rfl) ((i * 3 + t) / 3) (by omega) ((i * 3 + t) % 3) _ (by omega) (List.getElem?_eq_getElem hr)
      rw [show (i * 3 + t) / 3 * 3 + (i * 3 + t) % 3 = 0 + i * 3 + t by omega] at this
      show (w.cell? _).isSome = true
      rw [this]; rfl
    obtain ⟨W1, hW1⟩ : ∃ W1, W1 = w.drew.setCells g (0 + i * 3) news := ⟨_, rfl⟩
    have gW1 : w.grownBy W1 (some g) := by
      have a : w.grownBy w.drew (some g) := ⟨rfl, rfl, rfl, Nat.le_refl _, fun _ _ _ => rfl⟩
      rw [hW1]; exact grown_trans a (grown_setCells g news _ _)
    have c1 : ∀ m, m < (l.length) * 3 → (W1.cell? ⟨g, m, none⟩).isSome = true := by
      intro m hm
      have hr : m % 3 < (ucl (P[m / 3]'(by omega))).length := by show _ < 3; omega
      have hw := hcell w (fun _ _ => rfl) (m / 3) (by omega) (m % 3) _ (by omega) (List.getElem?_eq_getElem hr)
      rw [show m / 3 * 3 + m % 3 = m by omega] at hw
      obtain ⟨v', hv'⟩ : ∃ v', W1.cell? ⟨g, m, none⟩ = some v' := by
        rw [hW1]
        by_cases hin : 0 + i * 3 ≤ m ∧ m < 0 + i * 3 + news.length
        · have := World.cell?_setCells_in g news (0 + i * 3) w.drew (fun j hj => (s3 j hj).1) (m - (0 + i * 3)) (by omega)
          rw [show 0 + i * 3 + (m - (0 + i * 3)) = m by omega] at this
          exact ⟨_, this⟩
        · rw [World.cell?_setCells_out g news (0 + i * 3) w.drew ⟨g, m, none⟩ (fun _ _ => by show m < _ ∨ _ ≤ m; omega)]
          exact ⟨_, hw⟩
      rw [hv']; rfl
    have fW1 : ∀ j, W1.frozen? ⟨g, j, none⟩ = false := fun j => by rw [hW1, World.frozen?_setCells]; exact frz _ _ rfl
    have hn1 : i + (l.length - (i + 1)) = l.length - 1 := by omega
    have hcl : ∀ ty c, (Builtin.clear_ #[22] ty #[.slice (some ⟨g, 0 + (l.length - 1) * 3, none⟩) 1 c]).run Try.prog W1 = .ok (.tuple #[]) (W1.setCells g (0 + (l.length - 1) * 3) [.int .u64 0, .string ⟨#[]⟩, .slice none 0 0]) :=
      fun ty c => run_clear_upl W1 g _ c (fun j hj => c1 _ (by omega)) (fun j _ => fW1 _) ty
    have fin : Hid (Upls (W1.setCells g (0 + (l.length - 1) * 3) [.int .u64 0, .string ⟨#[]⟩, .slice none 0 0]) (W1.setCells g (0 + (l.length - 1) * 3) [.int .u64 0, .string ⟨#[]⟩, .slice none 0 0]).heap.size (.slice (some ⟨g, 0, none⟩) (l.length - 1) cap) (l.take i ++ l.drop (i + 1)) ∧ Below base w (W1.setCells g (0 + (l.length - 1) * 3) [.int .u64 0, .string ⟨#[]⟩, .slice none 0 0])) := by
      have g2 : w.grownBy (W1.setCells g (0 + (l.length - 1) * 3) [.int .u64 0, .string ⟨#[]⟩, .slice none 0 0]) (some g) := grown_trans gW1 (grown_setCells g _ _ _)
      refine ⟨?_, (Below.refl base w).grown g2 hb (fun k hk => by injection hk with hk; omega)⟩
      have hRl : (P.take i ++ P.drop (i + 1)).length = l.length - 1 := by rw [List.length_append, List.length_take, List.length_drop]; omega
      have := RowU.reread (R := P.take i ++ P.drop (i + 1)) r f g2 hb (fun p hp => by
          rcases List.mem_append.1 hp with hp | hp
          · exact List.mem_of_mem_take hp
          · exact List.mem_of_mem_drop hp) (by omega) (fun k hk j u hj hu => by
          rw [World.cell?_setCells_out g _ _ W1 ⟨g, k * 3 + j, none⟩ (fun _ _ => by left; show k * 3 + j < _; omega), hW1]
          by_cases hki : k < i
          · rw [List.getElem_append_left (by rw [List.length_take]; omega), List.getElem_take] at hu
            rw [World.cell?_setCells_out g news (0 + i * 3) w.drew ⟨g, k * 3 + j, none⟩ (fun _ _ => by left; show k * 3 + j < _; omega)]
            exact hcell w (fun _ _ => rfl) k (by omega) j u hj hu
          · rw [List.getElem_append_right (by rw [List.length_take]; omega)] at hu
            have hm : (k - i) * 3 + j < news.length := by rw [hlen]; omega
            have := World.cell?_setCells_in g news (0 + i * 3) w.drew (fun j hj => (s3 j hj).1) ((k - i) * 3 + j) hm
            rw [show 0 + i * 3 + ((k - i) * 3 + j) = k * 3 + j by omega] at this
            rw [this]
            have e1 := flat_atupl (P.drop (i + 1)) (k - i) (by rw [List.length_drop]; omega) hj
            rw [← hnews, List.getElem?_eq_getElem hm] at e1
            rw [e1, ← hu]
            congr 2
            simp only [List.length_take, Nat.min_eq_left (show i ≤ P.length by omega)]) hglt
      rw [hRl, List.map_append, List.map_take, List.map_drop, hP] at this
      exact this
    have hW : Hid (W1 = w.drew.setCells g (0 + i * 3) news) := hW1
    obtain ⟨i0, hi0, hz0, hz1, hz2⟩ := info_parts info_upl
    rw [hPl]
    obtain ⟨n, hn⟩ : ∃ n, n = l.length := ⟨_, rfl⟩
    obtain ⟨j, hj⟩ : ∃ j, j = i + 1 := ⟨_, rfl⟩
    rw [← hn] at s1 hcl hi
    have FIN := fin
    rw [← hn] at FIN ⊢
    rw [← hj] at hA s1 FIN
    rw [Nat.zero_add] at hA FIN
    have hcl2 : ∀ ty c, (Builtin.clear_ #[22] ty #[.slice (some ⟨g, (i + (n - j)) * 3, none⟩) (n - (i + (n - j))) c]).run Try.prog W1 = .ok (.tuple #[]) (W1.setCells g (0 + (n - 1) * 3) [.int .u64 0, .string ⟨#[]⟩, .slice none 0 0]) := fun ty c => by
      rw [show i + (n - j) = n - 1 by omega, show n - (n - 1) = 1 by omega]
      have := hcl ty c
      rw [Nat.zero_add] at this ⊢
      exact this
    clear hcl
    have hjn : j ≤ n := by omega
    have hij : i < j := by omega
    have hic : i ≤ cap := by omega
    have hjc : j ≤ cap := by omega
    have hnc2 : n ≤ cap := by omega
    have hcap : cap ≤ 9223372036854775807 := by unfold maxLen at hcm; omega
    have hji : ((i : Int) + 1) = (j : Int) := by omega
    rw [hji]
    have HNJ : Hid (i + (n - j) = n - 1) := Lib.hid (by omega)
    have hlt2 : i + (n - j) < n := by omega
    have hle2 : i + (n - j) ≤ n := by omega
    have HJ := Lib.hid hj
    have hroom : i + (n - j) ≤ cap := by omega
    have hln : n ≤ 1000 := by omega
    clear fin fW1 c1 gW1 hW1 frz hget hnews hlen hcell htake hcs hg R0 F0 r f hP hPl hn1 hji hj hn hnc hcm hl hb hbg
    go_enter Try.func37, Try.ntmps37
    go_wp2_with fail
    go_region_law (refine step_append_room rfl (.tmp 22) (.tmp 25) 22 rfl 40 i0 3 Try.underlying22 hi0 hz1 g 0 i cap (by simp [Act.eval, Act.put]) A (n - j) (cap - j) news (by simp [Act.eval, Act.put]) s1.out hsrc.out s2.out (by omega) s3.out ?_; rw [← hW.out])
    go_wp2
    go_ret
    refine ⟨_, rfl, ?_, FIN.out.2⟩
    rw [← HJ.out, HNJ.out]
    exact FIN.out.1

/-- The uploads without one. -/
def rmU (l : List Upl) (id : Nat) : List Upl := l.filter fun x => decide (x.id ≠ id)
theorem rmU_at {l : List Upl} {i id : Nat} (h : okUps l) (hi : i < l.length) (k : l[i].id = id) : l.take i ++ l.drop (i + 1) = rmU l id := by
  have e : l = l.take i ++ (l[i] :: l.drop (i + 1)) := by rw [List.getElem_cons_drop, List.take_append_drop]
  have h1 : ∀ x ∈ l.take i, x.id ≠ id := fun x hx => by
    obtain ⟨j, hj, rfl⟩ := List.getElem_of_mem hx
    rw [List.length_take] at hj
    rw [List.getElem_take]
    have := okUps_lt h j i (by omega) hi
    omega
  have h2 : ∀ x ∈ l.drop (i + 1), x.id ≠ id := fun x hx => by
    obtain ⟨j, hj, rfl⟩ := List.getElem_of_mem hx
    rw [List.length_drop] at hj
    rw [List.getElem_drop]
    have := okUps_lt h i (i + 1 + j) (by omega) (by omega)
    omega
  conv => rhs; rw [e]
  rw [rmU, List.filter_append, List.filter_cons_of_neg (by simp [k]), List.filter_eq_self.2 (fun x hx => by simpa using h1 x hx), List.filter_eq_self.2 (fun x hx => by simpa using h2 x hx)]
/-- What Abort comes to. -/
inductive AbortC (l : List Upl) (id : Nat) : List Upl → Nat → Prop
  | arg : ¬ okUps l → AbortC l id [] 1
  | none : okUps l → (∀ j (hl : j < l.length), l[j].id ≠ id) → AbortC l id [] 4
  | yes (i : Nat) (h : i < l.length) : okUps l → l[i].id = id → (∀ j (hj : j < i) (hl : j < l.length), l[j].id ≠ id) → AbortC l id (rmU l id) 0
theorem abortC_ex (l : List Upl) (id : Nat) : ∃ r e, AbortC l id r e := by
  by_cases h : okUps l
  · rcases where_id l id with ⟨-, k⟩ | ⟨i, hi, -, k, m⟩
    · exact ⟨_, _, .none h k⟩
    · exact ⟨_, _, .yes i hi h k m⟩
  · exact ⟨_, _, .arg h⟩
set_option maxHeartbeats 4000000 in
theorem abortU_any (l : List Upl) (v : Value) (id : Nat) (w : World) (r : List Upl) (e : Nat) (h : AbortC l id r e) (hs : smL l) (ht : Upls w w.heap.size v l) :
    Calls Try.prog 14 #[v, .int .u64 (id : Nat)] w fun x w' => ∃ u, x = .returned (.tuple #[u, .int .i64 (e : Nat)]) ∧ Upls w' w'.heap.size u r ∧ Q w w' := by
  have HT := Lib.hid ht
  have hl := hs.1
  have CK : ∀ R, Chk (okUps l) R → Calls Try.prog 19 #[v] w fun e w' => e = .returned (.int .i64 (chkE R)) ∧ Q w w' := fun R hR => checkU_any l v w R hR hs ht
  have PL : Hid (∀ d, Q w d → Calls Try.prog 32 #[v, .int .u64 (id : Nat)] d fun e w' => e = .returned (.int .i64 (idxU l id)) ∧ Q d w') := Lib.hid fun d q => placeU_any l v id d hl (ht.on q)
  have AA : Hid (∀ d, Q w d → Calls Try.prog 34 #[v] d fun e w' => ∃ v', e = .returned v' ∧ OwnU d.heap.size w' v' l ∧ Q d w') := Lib.hid fun d q => allApart_any l v d hs (ht.on q)
  cases h with
  | arg hno =>
    have C := Lib.hid (CK false (.inr ⟨rfl, hno⟩))
    clear CK ht hs hno PL AA
    go_enter Try.func14, Try.ntmps14
    go_wp2_with fail
    refine (C.out).mono ?_
    rintro e w1 ⟨rfl, q1⟩
    go_wp2
    go_ret2
    exact ⟨_, rfl, Upls.nil _ _, q1⟩
  | none hok hno =>
    have C := Lib.hid (CK true (.inl ⟨rfl, hok⟩))
    have e1 := idxU_none hno
    rw [e1] at PL
    clear CK ht hs hok hno e1 AA
    go_enter Try.func14, Try.ntmps14
    go_wp2_with fail
    refine (C.out).mono ?_
    rintro e w1 ⟨rfl, q1⟩
    go_wp2_with fail
    refine (PL.out _ q1).mono ?_
    rintro e w2 ⟨rfl, q2⟩
    go_wp2
    go_ret2
    exact ⟨_, rfl, Upls.nil _ _, q1.trans q2⟩
  | yes i hlt hok hid hlo =>
    have C := Lib.hid (CK true (.inl ⟨rfl, hok⟩))
    have e1 := idxU_hit hlt hid hlo
    rw [e1] at PL
    have HR := Lib.hid (rmU_at hok hlt hid)
    have DL : Hid (∀ base d v', base ≤ d.heap.size → OwnU base d v' l → Calls Try.prog 37 #[v', .int .i64 (i : Nat), .int .i64 ((i : Int) + 1)] d fun e w' => ∃ v', e = .returned v' ∧ Upls w' w'.heap.size v' (l.take i ++ l.drop (i + 1)) ∧ Below base d w') := Lib.hid fun base d v' hb ho => deleteU_any l v' i base d hlt hl hb ho
    have hi0 : ¬ (i : Int) < 0 := by omega
    have hil : i ≤ 1000 := by omega
    clear CK ht hs hok hid hlo e1
    go_enter Try.func14, Try.ntmps14
    go_wp2_with fail
    refine (C.out).mono ?_
    rintro e w1 ⟨rfl, q1⟩
    go_wp2_with fail
    refine (PL.out _ q1).mono ?_
    rintro e w2 ⟨rfl, q2⟩
    go_wp2_with fail
    refine (AA.out _ (q1.trans q2)).mono ?_
    rintro e w3 ⟨v3, rfl, o3, q3⟩
    have D3 := Lib.hid (DL.out _ _ _ q3.size o3)
    clear o3
    go_wp2_with fail
    refine (D3.out).mono ?_
    rintro e w4 ⟨v4, rfl, o4, q4⟩
    go_wp2
    go_ret2
    exact ⟨_, rfl, by rw [← HR.out]; exact o4, (q1.trans q2).trans (Below.trans q3 q4)⟩
theorem rmU_no {l : List Upl} {i id : Nat} (h : i < l.length) (k : l[i].id = id) : rmU (l.take (i + 1)) id = rmU (l.take i) id := by
  rw [List.take_succ_eq_append_getElem h, rmU, List.filter_append, ← rmU, List.filter_cons_of_neg (by simp [k])]; simp
theorem rmU_yes {l : List Upl} {i id : Nat} (h : i < l.length) (k : l[i].id ≠ id) : rmU (l.take (i + 1)) id = rmU (l.take i) id ++ [l[i]] := by
  rw [List.take_succ_eq_append_getElem h, rmU, List.filter_append, ← rmU, List.filter_cons_of_pos (by simp [k])]; rfl
theorem rmU_length (l : List Upl) (id : Nat) : (rmU l id).length ≤ l.length := List.length_filter_le ..
end Go.Proofs.Ytlahccmlnbdekaa
