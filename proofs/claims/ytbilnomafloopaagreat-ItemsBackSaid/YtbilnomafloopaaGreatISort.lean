/-
  Contracts of the sorts of items and of changes.
-/
import Derived.Test.YtbilnomafloopaaGreatICol
import Derived.Test.YtbilnomafloopaaGreatILays
import Derived.Shelf.SlSortCmp.NoneTotal
namespace Go.Proofs.YtbilnomafloopaaGreat
set_option maxRecDepth 100000
open Go.ChangeShapes Go.WideShapes Go.ChangeAt Go.RowKit Go.Shelf Go.Sort
set_option linter.unusedVariables false
set_option linter.unusedSimpArgs false

theorem flat_gen {α : Type} (enc : α → List Value) (k : Nat) (hk : ∀ x, (enc x).length = k) (l : List α) (i : Nat) (h : i < l.length) {j : Nat} (hj : j < k) : (l.flatMap enc)[i * k + j]? = (enc l[i])[j]? := by
  induction l generalizing i with
  | nil => simp at h
  | cons x r ih =>
    rw [List.flatMap_cons]
    cases i with
    | zero => rw [List.getElem?_append_left (by rw [hk]; omega)]; simp
    | succ i =>
      have e : (i + 1) * k + j = k + (i * k + j) := by rw [Nat.succ_mul]; omega
      rw [e, List.getElem?_append_right (by rw [hk]; omega), hk, Nat.add_sub_cancel_left, ih i (by simpa using h)]
      rfl
theorem flat_len {α : Type} (enc : α → List Value) (k : Nat) (hk : ∀ x, (enc x).length = k) (l : List α) : (l.flatMap enc).length = l.length * k := by
  induction l with
  | nil => simp
  | cons x r ih => rw [List.flatMap_cons, List.length_append, ih, hk, List.length_cons, Nat.succ_mul]; omega
theorem flatK_eq {α : Type} [Inhabited α] (enc : α → List Value) (k : Nat) (hk : ∀ x, (enc x).length = k) (k0 : 0 < k) (d : Array α) : (flatK enc k d).toList = d.toList.flatMap enc := by
  apply List.ext_getElem?
  intro t
  by_cases ht : t < d.size * k
  · have hq : t / k < d.size := (Nat.div_lt_iff_lt_mul k0).2 ht
    have hr : t % k < k := Nat.mod_lt _ k0
    have e1 : (flatK enc k d).toList[t]? = some ((enc d[t / k]!)[t % k]!) := by
      rw [Array.getElem?_toList, Array.getElem?_eq_getElem (by simpa using ht)]
      have := get_flatK enc k d t ht
      rw [getElem!_pos _ t (by simpa using ht)] at this
      rw [this]
    have e2 : t = t / k * k + t % k := by have := Nat.div_add_mod t k; rw [Nat.mul_comm] at this; exact this.symm
    have hg := flat_gen enc k hk d.toList (t / k) (by simpa using hq) hr
    rw [← e2] at hg
    rw [e1, hg, getElem!_pos d (t / k) hq, Array.getElem_toList, List.getElem?_eq_getElem (by rw [hk]; exact hr), getElem!_pos _ _ (by rw [hk]; exact hr)]
  · rw [List.getElem?_eq_none (by simpa using Nat.le_of_not_lt ht), List.getElem?_eq_none (by rw [flat_len enc k hk]; simpa using Nat.le_of_not_lt ht)]
/-- What a sort leaves of a row of the call's own. -/
theorem own_holds {α : Type} [Inhabited α] {enc : α → List Value} {k : Nat} (hk : ∀ x, (enc x).length = k) (k0 : 0 < k) {w : World} {base T n cap g : Nat} {d : Array α}
    (h : w.ownsRow base T k (.slice (some ⟨g, 0, none⟩) n cap) n (d.toList.flatMap enc)) (hn : d.size = n) : HoldsK enc k w g 0 d := by
  rcases h.2 with ⟨h0, -⟩ | ⟨g', cap', cur, e, -, hg, h1, h2, h3, h4⟩
  · cases h0
  · injection e with e1 e2 e3
    injection e1 with e1
    injection e1 with e1
    subst e1
    intro j hj
    have hj2 : j < n * k := by rw [← hn]; simpa using hj
    have hc : cur[j]? = some (flatK enc k d)[j]! := by
      have e4 : cur.toList[j]? = (flatK enc k d).toList[j]? := by
        rw [flatK_eq enc k hk k0, ← h4, List.getElem?_take, if_pos hj2]
      rw [Array.getElem?_toList, Array.getElem?_toList] at e4
      rw [e4, Array.getElem?_eq_getElem hj, getElem!_pos _ j hj]
    constructor
    · show w.cell? ⟨g, 0 + j, none⟩ = _
      rw [Nat.zero_add]
      simp [World.cell?, hg, hc]
    · simp [World.frozen?, hg]
theorem own_sorted {α : Type} [Inhabited α] {enc : α → List Value} {k : Nat} (hk : ∀ x, (enc x).length = k) (k0 : 0 < k) {w : World} {base T n cap g m : Nat} {d d' : Array α} {os : Array Obj}
    (h : w.ownsRow base T k (.slice (some ⟨g, 0, none⟩) n cap) n (d.toList.flatMap enc)) (hn : d.size = n) (hs : d'.size = d.size) :
    (sortWorldK enc k w g 0 m d' os).ownsRow base T k (.slice (some ⟨g, 0, none⟩) n cap) n (d'.toList.flatMap enc) ∧ w.grownBy (sortWorldK enc k w g 0 m d' os) (some g) := by
  rcases h.2 with ⟨h0, -⟩ | ⟨g', cap', cur, e, hb, hg, h1, h2, h3, h4⟩
  · cases h0
  · injection e with e1 e2 e3
    injection e1 with e1
    injection e1 with e1
    subst e1 e3
    have hlt : g < w.heap.size := lt_of_block hg
    have hF : (flatK enc k d').size = n * k := by rw [size_flatK, hs, hn]
    have hblk : ∀ i, i < w.heap.size → (sortWorldK enc k w g 0 m d' os).heap[i]? = (w.heap.modify g (onCells (putCells id 0 (flatK enc k d'))))[i]? := by
      intro i hi
      show ((w.heap.modify g (onCells (putCells id 0 (flatK enc k d')))) ++ os)[i]? = _
      rw [Array.getElem?_append_left (by simpa using hi)]
    refine ⟨⟨by rw [flat_len enc k hk]; simp [hs, hn], .inr ⟨g, cap, putCells id 0 (flatK enc k d') cur, rfl, hb, ?_, h1, h2, ?_, ?_⟩⟩, rfl, rfl, rfl, ?_, ?_⟩
    · rw [hblk g hlt, Array.getElem?_modify, if_pos rfl, hg]; rfl
    · simp [putCells, h3]
    · have hle : n * k ≤ cur.size := by rw [h3]; exact Nat.mul_le_mul_right _ h1
      rw [← flatK_eq enc k hk k0]
      apply List.ext_getElem?
      intro t
      rw [List.getElem?_take]
      by_cases ht : t < n * k
      · rw [if_pos ht]
        simp only [putCells, Array.getElem?_toList, Array.getElem?_mapIdx]
        rw [Array.getElem?_eq_getElem (by omega), Array.getElem?_eq_getElem (by rw [hF]; exact ht), Option.map_some, if_pos ⟨by omega, by rw [hF]; omega⟩, Nat.sub_zero, getElem!_pos _ t (by rw [hF]; exact ht)]
        rfl
      · rw [if_neg ht, List.getElem?_eq_none (by rw [Array.length_toList, hF]; omega)]
    · show w.heap.size ≤ ((w.heap.modify g (onCells (putCells id 0 (flatK enc k d')))) ++ os).size
      simp
    · intro i hi hne
      rw [hblk i hi, Array.getElem?_modify, if_neg (fun e => hne (by rw [e]))]

instance : Inhabited Itm := ⟨⟨⟨#[]⟩, ⟨#[]⟩⟩⟩
set_option maxHeartbeats 2000000 in
theorem sI_closure (x y : Itm) (W : World) : Calls Tryz.prog 71 #[.agg #[.string x.n, .string x.val], .agg #[.string y.n, .string y.val]] W fun e w' => e = .returned (.int .i64 (cmpT x.n y.n)) ∧ ∃ q os', w' = grow (W.drewN q) os' := by
  have hcon := fun W' => cmpS_any x.n y.n W'
  generalize cmpT x.n y.n = r at hcon ⊢
  go_enter Tryz.func71, Tryz.ntmps71
  go_wp2_with (go_at_call 46; refine (hcon _).mono ?_; rintro e w' ⟨rfl, rfl⟩)
  go_ret
  exact ⟨rfl, 0, _, by rw [alloc_eq_grow, alloc_eq_grow, grow_grow]; rfl⟩
theorem sI_lays (blk off size : Nat) (w : World) : CmpLays Tryz.prog 71 #[] icl 2 (fun x y : Itm => cmpT x.n y.n) blk off size w :=
  fun _ _ _ _ x y => sI_closure x y _
theorem sI_lt (x y : Itm) : ltOf (fun x y : Itm => cmpT x.n y.n) x y = ltB x.n y.n := by
  unfold ltOf cmpT
  cases h1 : ltB x.n y.n with
  | true => simp [h1]
  | false => cases h2 : ltB y.n x.n <;> simp [h1, h2]
theorem sI_swo : SWO (ltOf fun x y : Itm => cmpT x.n y.n) where
  irrefl x := by rw [sI_lt]; exact ltB_irrefl _
  trans x y z h1 h2 := by rw [sI_lt] at *; exact ltB_trans h1 h2
  ntrans x y z h1 h2 := by
    rw [sI_lt] at *
    cases h : ltB x.n z.n with
    | false => rfl
    | true =>
      exfalso
      by_cases e : x.n = y.n
      · rw [e, h2] at h; cases h
      · have h3 := ltB_total e h1
        have h4 := ltB_trans h3 h
        rw [h4] at h2; cases h2
set_option maxHeartbeats 2000000 in
theorem sI_sort (L : List Itm) (v : Value) (base : Nat) (w : World) (ho : OwnI base w v L) (hl : L.length ≤ 100000) :
    Calls Tryz.prog 70 #[v, .func (.func 71) #[] #[]] w fun e w' => e = .returned (.tuple #[]) ∧ ∃ L', L'.Perm L ∧ L'.Pairwise (fun x y => ltB y.n x.n = false) ∧ OwnI base w' v L' ∧ w.grownBy w' v.ownBlock := by
  have ho2 := ho
  rcases ho.2 with ⟨rfl, h0⟩ | ⟨g, cap, cur, rfl, hb, hg, h1, h2, h3, h4⟩
  · have hc := AnyF.slices_SortFunc_none laysSI none 0 (.func (.func 71) #[] #[]) w
    change Calls Tryz.prog 70 _ _ _ at hc
    refine hc.mono ?_
    rintro e w' ⟨rfl, rfl⟩
    have hL := List.length_eq_zero_iff.1 h0
    subst hL
    exact ⟨rfl, [], List.Perm.refl _, List.Pairwise.nil, ho2, World.grownBy.refl w' _⟩
  · have eg : ∀ args w, (callFunc 71 args).run Tryz.prog w = .ok (.enter 71 args) w := enters_of Tryz.func71 (by kernel_rfl) rfl
    have hH : HoldsK icl 2 w g 0 L.toArray := own_holds (enc := icl) (k := 2) (fun _ => rfl) (by omega) (n := L.length) (base := base) (T := 68) (cap := cap) ho2 (by simp)
    have hcon := AnyQ.slices_SortFunc laysSI 2 Tryz.isAgg68 Tryz.sizeOf68 icl (fun _ => rfl) (fun x v hv => icl_one x v hv) (fun x y : Itm => cmpT x.n y.n) sI_swo 71 #[] g 0 cap L.toArray w eg (sI_lays g 0 L.toArray.size w) hH (lt_of_block hg) (by simp; omega)
    change Calls Tryz.prog 70 _ _ _ at hcon
    rw [List.size_toArray] at hcon
    refine hcon.mono ?_
    rintro e w' ⟨rfl, d', n, os, hp, hs, rfl⟩
    have hsz : d'.size = L.length := by have := hp.1; simpa using this
    obtain ⟨o1, o2⟩ := own_sorted (enc := icl) (k := 2) (fun _ => rfl) (by omega : 0 < 2) (d := L.toArray) (d' := d') (m := n) (os := os) (n := L.length) (base := base) (T := 68) (cap := cap) ho2 (by simp) (by simpa using hsz)
    refine ⟨rfl, d'.toList, ?_, ?_, ?_, o2⟩
    · have := hp.2.2
      have e : List.take L.length d'.toList = d'.toList := List.take_of_length_le (by simp [hsz])
      simp [hsz, e] at this
      exact this
    · rw [List.pairwise_iff_getElem]
      intro i j hi hj hij
      have := hs i j (Nat.zero_le _) hij (by simpa [hsz] using hj)
      rw [sI_lt, getElem!_pos d' j (by simpa using hj), getElem!_pos d' i (by simpa using hi)] at this
      simpa using this
    · have e2 : d'.toList.length = L.length := by simp [hsz]
      unfold OwnI
      rw [e2]
      exact o1

instance : Inhabited Chg := ⟨⟨⟨#[]⟩, ⟨#[]⟩, false⟩⟩
set_option maxHeartbeats 2000000 in
theorem sH_closure (x y : Chg) (W : World) : Calls Tryz.prog 45 #[.agg #[.string x.n, .string x.val, .bool x.gone], .agg #[.string y.n, .string y.val, .bool y.gone]] W fun e w' => e = .returned (.int .i64 (cmpT x.n y.n)) ∧ ∃ q os', w' = grow (W.drewN q) os' := by
  have hcon := fun W' => cmpS_any x.n y.n W'
  generalize cmpT x.n y.n = r at hcon ⊢
  go_enter Tryz.func45, Tryz.ntmps45
  go_wp2_with (go_at_call 46; refine (hcon _).mono ?_; rintro e w' ⟨rfl, rfl⟩)
  go_ret
  exact ⟨rfl, 0, _, by rw [alloc_eq_grow, alloc_eq_grow, grow_grow]; rfl⟩
theorem sH_lays (blk off size : Nat) (w : World) : CmpLays Tryz.prog 45 #[] hcl 3 (fun x y : Chg => cmpT x.n y.n) blk off size w :=
  fun _ _ _ _ x y => sH_closure x y _
theorem sH_lt (x y : Chg) : ltOf (fun x y : Chg => cmpT x.n y.n) x y = ltB x.n y.n := by
  unfold ltOf cmpT
  cases h1 : ltB x.n y.n with
  | true => simp [h1]
  | false => cases h2 : ltB y.n x.n <;> simp [h1, h2]
theorem sH_swo : SWO (ltOf fun x y : Chg => cmpT x.n y.n) where
  irrefl x := by rw [sH_lt]; exact ltB_irrefl _
  trans x y z h1 h2 := by rw [sH_lt] at *; exact ltB_trans h1 h2
  ntrans x y z h1 h2 := by
    rw [sH_lt] at *
    cases h : ltB x.n z.n with
    | false => rfl
    | true =>
      exfalso
      by_cases e : x.n = y.n
      · rw [e, h2] at h; cases h
      · have h3 := ltB_total e h1
        have h4 := ltB_trans h3 h
        rw [h4] at h2; cases h2
set_option maxHeartbeats 2000000 in
theorem sH_sort (L : List Chg) (v : Value) (base : Nat) (w : World) (ho : OwnH base w v L) (hl : L.length ≤ 100000) :
    Calls Tryz.prog 44 #[v, .func (.func 45) #[] #[]] w fun e w' => e = .returned (.tuple #[]) ∧ ∃ L', L'.Perm L ∧ L'.Pairwise (fun x y => ltB y.n x.n = false) ∧ OwnH base w' v L' ∧ w.grownBy w' v.ownBlock := by
  have ho2 := ho
  rcases ho.2 with ⟨rfl, h0⟩ | ⟨g, cap, cur, rfl, hb, hg, h1, h2, h3, h4⟩
  · have hc := AnyF.slices_SortFunc_none laysSH none 0 (.func (.func 45) #[] #[]) w
    change Calls Tryz.prog 44 _ _ _ at hc
    refine hc.mono ?_
    rintro e w' ⟨rfl, rfl⟩
    have hL := List.length_eq_zero_iff.1 h0
    subst hL
    exact ⟨rfl, [], List.Perm.refl _, List.Pairwise.nil, ho2, World.grownBy.refl w' _⟩
  · have eg : ∀ args w, (callFunc 45 args).run Tryz.prog w = .ok (.enter 45 args) w := enters_of Tryz.func45 (by kernel_rfl) rfl
    have hH : HoldsK hcl 3 w g 0 L.toArray := own_holds (enc := hcl) (k := 3) (fun _ => rfl) (by omega) (n := L.length) (base := base) (T := 72) (cap := cap) ho2 (by simp)
    have hcon := AnyQ.slices_SortFunc laysSH 3 Tryz.isAgg72 Tryz.sizeOf72 hcl (fun _ => rfl) (fun x v hv => hcl_one x v hv) (fun x y : Chg => cmpT x.n y.n) sH_swo 45 #[] g 0 cap L.toArray w eg (sH_lays g 0 L.toArray.size w) hH (lt_of_block hg) (by simp; omega)
    change Calls Tryz.prog 44 _ _ _ at hcon
    rw [List.size_toArray] at hcon
    refine hcon.mono ?_
    rintro e w' ⟨rfl, d', n, os, hp, hs, rfl⟩
    have hsz : d'.size = L.length := by have := hp.1; simpa using this
    obtain ⟨o1, o2⟩ := own_sorted (enc := hcl) (k := 3) (fun _ => rfl) (by omega : 0 < 3) (d := L.toArray) (d' := d') (m := n) (os := os) (n := L.length) (base := base) (T := 72) (cap := cap) ho2 (by simp) (by simpa using hsz)
    refine ⟨rfl, d'.toList, ?_, ?_, ?_, o2⟩
    · have := hp.2.2
      have e : List.take L.length d'.toList = d'.toList := List.take_of_length_le (by simp [hsz])
      simp [hsz, e] at this
      exact this
    · rw [List.pairwise_iff_getElem]
      intro i j hi hj hij
      have := hs i j (Nat.zero_le _) hij (by simpa [hsz] using hj)
      rw [sH_lt, getElem!_pos d' j (by simpa using hj), getElem!_pos d' i (by simpa using hi)] at this
      simpa using this
    · have e2 : d'.toList.length = L.length := by simp [hsz]
      unfold OwnH
      rw [e2]
      exact o1

set_option maxHeartbeats 1000000 in
theorem sortItems_any (L : List Itm) (v : Value) (base : Nat) (w : World) (ho : OwnI base w v L) (hl : L.length ≤ 100000) :
    Calls Tryz.prog 34 #[v] w fun e w' => e = .returned (.tuple #[]) ∧ ∃ L', L'.Perm L ∧ L'.Pairwise (fun x y => ltB y.n x.n = false) ∧ OwnI base w' v L' ∧ w.grownBy w' v.ownBlock := by
  have C := Lib.hid (sI_sort L v base w ho hl)
  clear ho
  go_enter Tryz.func34, Tryz.ntmps34
  go_wp2_with fail
  refine (C.out).mono ?_
  rintro e w' ⟨rfl, L', a, b, c, d⟩
  go_wp2_with fail
  go_end0
  exact ⟨rfl, L', a, b, c, d⟩
end Go.Proofs.YtbilnomafloopaaGreat
