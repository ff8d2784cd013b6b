/-
  Contracts of the sorts of items and of changes. The sort of notes. Contract of the program's With. Contracts of the program's counting, Count, Items, Live, Last and Stamped. Contracts of the program's Count, Items, Live, Last and Stamped. Contract of the document's Same of notes. Contracts of the program's Items, Live, Last and Stamped. Contract of the program's Live.
-/
import Derived.Test.YthlbpjopkaninaaNd
import Derived.Shelf.SlSortCmp.NoneTotal
import Derived.Deep.DeepCutAuto
import Derived.Test.YthlbpjopkaninaaNc
import Derived.Test.YthlbpjopkaninaaNb
namespace Go.Proofs.Ythlbpjopkaninaa
set_option maxRecDepth 100000
open Go.ChangeShapes Go.WideShapes Go.ChangeAt Go.RowKit Go.Shelf Go.Sort
set_option linter.unusedVariables false
set_option linter.unusedSimpArgs false
theorem flat_gen {α : Type} (enc : α → List Value) (k : Nat) (hk : ∀ x, (enc x).length = k) (l : List α) (i : Nat) (h : i < l.length) {j : Nat} (hj : j < k) : (l.flatMap enc)[i * k + j]? = (enc l[i])[j]? := by
  induction l generalizing i with
  | nil => simp at h
  | cons x r ih =>
    rw [List.flatMap_cons]
    cases i with
    | zero => rw [List.getElem?_append_left (by rw [hk]; omega)]; simp
    | succ i =>
      have e : (i + 1) * k + j = k + (i * k + j) := by rw [Nat.succ_mul]; omega
      rw [e, List.getElem?_append_right (by rw [hk]; omega), hk, Nat.add_sub_cancel_left, ih i (by simpa using h)]
      rfl
theorem flat_len {α : Type} (enc : α → List Value) (k : Nat) (hk : ∀ x, (enc x).length = k) (l : List α) : (l.flatMap enc).length = l.length * k := by
  induction l with
  | nil => simp
  | cons x r ih => rw [List.flatMap_cons, List.length_append, ih, hk, List.length_cons, Nat.succ_mul]; omega
theorem flatK_eq {α : Type} [Inhabited α] (enc : α → List Value) (k : Nat) (hk : ∀ x, (enc x).length = k) (k0 : 0 < k) (d : Array α) : (flatK enc k d).toList = d.toList.flatMap enc := by
  apply List.ext_getElem?
  intro t
  by_cases ht : t < d.size * k
  · have hq : t / k < d.size := (Nat.div_lt_iff_lt_mul k0).2 ht
    have hr : t % k < k := Nat.mod_lt _ k0
    have e1 : (flatK enc k d).toList[t]? = some ((enc d[t / k]!)[t % k]!) := by
      rw [Array.getElem?_toList, Array.getElem?_eq_getElem (by simpa using ht)]
      have := get_flatK enc k d t ht
      rw [getElem!_pos _ t (by simpa using ht)] at this
      rw [this]
    have e2 : t = t / k * k + t % k := by have := Nat.div_add_mod t k; rw [Nat.mul_comm] at this; exact this.symm
    have hg := flat_gen enc k hk d.toList (t / k) (by simpa using hq) hr
    rw [← e2] at hg
    rw [e1, hg, getElem!_pos d (t / k) hq, Array.getElem_toList, List.getElem?_eq_getElem (by rw [hk]; exact hr), getElem!_pos _ _ (by rw [hk]; exact hr)]
  · rw [List.getElem?_eq_none (by simpa using Nat.le_of_not_lt ht), List.getElem?_eq_none (by rw [flat_len enc k hk]; simpa using Nat.le_of_not_lt ht)]
/-- What a sort leaves of a row of the call's own. -/
theorem own_holds {α : Type} [Inhabited α] {enc : α → List Value} {k : Nat} (hk : ∀ x, (enc x).length = k) (k0 : 0 < k) {w : World} {base T n cap g : Nat} {d : Array α}
    (h : w.ownsRow base T k (.slice (some ⟨g, 0, none⟩) n cap) n (d.toList.flatMap enc)) (hn : d.size = n) : HoldsK enc k w g 0 d := by
  rcases h.2 with ⟨h0, -⟩ | ⟨g', cap', cur, e, -, hg, h1, h2, h3, h4⟩
  · cases h0
  · injection e with e1 e2 e3
    injection e1 with e1
    injection e1 with e1
    subst e1
    intro j hj
    have hj2 : j < n * k := by rw [← hn]; simpa using hj
    have hc : cur[j]? = some (flatK enc k d)[j]! := by
      have e4 : cur.toList[j]? = (flatK enc k d).toList[j]? := by
        rw [flatK_eq enc k hk k0, ← h4, List.getElem?_take, if_pos hj2]
      rw [Array.getElem?_toList, Array.getElem?_toList] at e4
      rw [e4, Array.getElem?_eq_getElem hj, getElem!_pos _ j hj]
    constructor
    · show w.cell? ⟨g, 0 + j, none⟩ = _
      rw [Nat.zero_add]
      simp [World.cell?, hg, hc]
    · simp [World.frozen?, hg]
theorem own_sorted {α : Type} [Inhabited α] {enc : α → List Value} {k : Nat} (hk : ∀ x, (enc x).length = k) (k0 : 0 < k) {w : World} {base T n cap g m : Nat} {d d' : Array α} {os : Array Obj}
    (h : w.ownsRow base T k (.slice (some ⟨g, 0, none⟩) n cap) n (d.toList.flatMap enc)) (hn : d.size = n) (hs : d'.size = d.size) :
    (sortWorldK enc k w g 0 m d' os).ownsRow base T k (.slice (some ⟨g, 0, none⟩) n cap) n (d'.toList.flatMap enc) ∧ w.grownBy (sortWorldK enc k w g 0 m d' os) (some g) := by
  rcases h.2 with ⟨h0, -⟩ | ⟨g', cap', cur, e, hb, hg, h1, h2, h3, h4⟩
  · cases h0
  · injection e with e1 e2 e3
    injection e1 with e1
    injection e1 with e1
    subst e1 e3
    have hlt : g < w.heap.size := lt_of_block hg
    have hF : (flatK enc k d').size = n * k := by rw [size_flatK, hs, hn]
    have hblk : ∀ i, i < w.heap.size → (sortWorldK enc k w g 0 m d' os).heap[i]? = (w.heap.modify g (onCells (putCells id 0 (flatK enc k d'))))[i]? := by
      intro i hi
      show ((w.heap.modify g (onCells (putCells id 0 (flatK enc k d')))) ++ os)[i]? = _
      rw [Array.getElem?_append_left (by simpa using hi)]
    refine ⟨⟨by rw [flat_len enc k hk]; simp [hs, hn], .inr ⟨g, cap, putCells id 0 (flatK enc k d') cur, rfl, hb, ?_, h1, h2, ?_, ?_⟩⟩, rfl, rfl, rfl, ?_, ?_⟩
    · rw [hblk g hlt, Array.getElem?_modify, if_pos rfl, hg]; rfl
    · simp [putCells, h3]
    · have hle : n * k ≤ cur.size := by rw [h3]; exact Nat.mul_le_mul_right _ h1
      rw [← flatK_eq enc k hk k0]
      apply List.ext_getElem?
      intro t
      rw [List.getElem?_take]
      by_cases ht : t < n * k
      · rw [if_pos ht]
        simp only [putCells, Array.getElem?_toList, Array.getElem?_mapIdx]
        rw [Array.getElem?_eq_getElem (by omega), Array.getElem?_eq_getElem (by rw [hF]; exact ht), Option.map_some, if_pos ⟨by omega, by rw [hF]; omega⟩, Nat.sub_zero, getElem!_pos _ t (by rw [hF]; exact ht)]
        rfl
      · rw [if_neg ht, List.getElem?_eq_none (by rw [Array.length_toList, hF]; omega)]
    · show w.heap.size ≤ ((w.heap.modify g (onCells (putCells id 0 (flatK enc k d')))) ++ os).size
      simp
    · intro i hi hne
      rw [hblk i hi, Array.getElem?_modify, if_neg (fun e => hne (by rw [e]))]
instance : Inhabited Itm := ⟨⟨⟨#[]⟩, ⟨#[]⟩⟩⟩
set_option maxHeartbeats 2000000 in
theorem sI_closure (x y : Itm) (W : World) : Calls Try.prog 77 #[.agg #[.string x.n, .string x.val], .agg #[.string y.n, .string y.val]] W fun e w' => e = .returned (.int .i64 (cmpT x.n y.n)) ∧ ∃ q os', w' = grow (W.drewN q) os' := by
  have hcon := fun W' => cmpS_any x.n y.n W'
  generalize cmpT x.n y.n = r at hcon ⊢
  go_enter Try.func77, Try.ntmps77
  go_wp2_with (go_at_call 43; refine (hcon _).mono ?_; rintro e w' ⟨rfl, rfl⟩)
  go_ret
  exact ⟨rfl, 0, _, by rw [alloc_eq_grow, alloc_eq_grow, grow_grow]; rfl⟩
theorem sI_lays (blk off size : Nat) (w : World) : CmpLays Try.prog 77 #[] icl 2 (fun x y : Itm => cmpT x.n y.n) blk off size w :=
  fun _ _ _ _ x y => sI_closure x y _
theorem sI_lt (x y : Itm) : ltOf (fun x y : Itm => cmpT x.n y.n) x y = ltBZ x.n y.n := by
  unfold ltOf cmpT
  cases h1 : ltBZ x.n y.n with
  | true => simp [h1]
  | false => cases h2 : ltBZ y.n x.n <;> simp [h1, h2]
theorem sI_swo : SWO (ltOf fun x y : Itm => cmpT x.n y.n) where
  irrefl x := by rw [sI_lt]; exact ltB_irreflZ _
  trans x y z h1 h2 := by rw [sI_lt] at *; exact ltB_transZ h1 h2
  ntrans x y z h1 h2 := by
    rw [sI_lt] at *
    cases h : ltBZ x.n z.n with
    | false => rfl
    | true =>
      exfalso
      by_cases e : x.n = y.n
      · rw [e, h2] at h; cases h
      · have h3 := ltB_totalZ e h1
        have h4 := ltB_transZ h3 h
        rw [h4] at h2; cases h2
set_option maxHeartbeats 2000000 in
theorem sI_sort (L : List Itm) (v : Value) (base : Nat) (w : World) (ho : OwnI base w v L) (hl : L.length ≤ 100000) :
    Calls Try.prog 76 #[v, .func (.func 77) #[] #[]] w fun e w' => e = .returned (.tuple #[]) ∧ ∃ L', L'.Perm L ∧ L'.Pairwise (fun x y => ltBZ y.n x.n = false) ∧ OwnI base w' v L' ∧ w.grownBy w' v.ownBlock := by
  have ho2 := ho
  rcases ho.2 with ⟨rfl, h0⟩ | ⟨g, cap, cur, rfl, hb, hg, h1, h2, h3, h4⟩
  · have hc := AnyF.slices_SortFunc_none laysSI none 0 (.func (.func 77) #[] #[]) w
    change Calls Try.prog 76 _ _ _ at hc
    refine hc.mono ?_
    rintro e w' ⟨rfl, rfl⟩
    have hL := List.length_eq_zero_iff.1 h0
    subst hL
    exact ⟨rfl, [], List.Perm.refl _, List.Pairwise.nil, ho2, World.grownBy.refl w' _⟩
  · have eg : ∀ args w, (callFunc 77 args).run Try.prog w = .ok (.enter 77 args) w := enters_of Try.func77 (by kernel_rfl) rfl
    have hH : HoldsK icl 2 w g 0 L.toArray := own_holds (enc := icl) (k := 2) (fun _ => rfl) (by omega) (n := L.length) (base := base) (T := 58) (cap := cap) ho2 (by simp)
    have hcon := AnyQ.slices_SortFunc laysSI 2 Try.isAgg58 Try.sizeOf58 icl (fun _ => rfl) (fun x v hv => icl_one x v hv) (fun x y : Itm => cmpT x.n y.n) sI_swo 77 #[] g 0 cap L.toArray w eg (sI_lays g 0 L.toArray.size w) hH (lt_of_block hg) (by simp; omega)
    change Calls Try.prog 76 _ _ _ at hcon
    rw [List.size_toArray] at hcon
    refine hcon.mono ?_
    rintro e w' ⟨rfl, d', n, os, hp, hs, rfl⟩
    have hsz : d'.size = L.length := by have := hp.1; simpa using this
    obtain ⟨o1, o2⟩ := own_sorted (enc := icl) (k := 2) (fun _ => rfl) (by omega : 0 < 2) (d := L.toArray) (d' := d') (m := n) (os := os) (n := L.length) (base := base) (T := 58) (cap := cap) ho2 (by simp) (by simpa using hsz)
    refine ⟨rfl, d'.toList, ?_, ?_, ?_, o2⟩
    · have := hp.2.2
      have e : List.take L.length d'.toList = d'.toList := List.take_of_length_le (by simp [hsz])
      simp [hsz, e] at this
      exact this
    · rw [List.pairwise_iff_getElem]
      intro i j hi hj hij
      have := hs i j (Nat.zero_le _) hij (by simpa [hsz] using hj)
      rw [sI_lt, getElem!_pos d' j (by simpa using hj), getElem!_pos d' i (by simpa using hi)] at this
      simpa using this
    · have e2 : d'.toList.length = L.length := by simp [hsz]
      unfold OwnI
      rw [e2]
      exact o1
instance : Inhabited Chg := ⟨⟨⟨#[]⟩, ⟨#[]⟩, false⟩⟩
set_option maxHeartbeats 1000000 in
theorem sortItems_any (L : List Itm) (v : Value) (base : Nat) (w : World) (ho : OwnI base w v L) (hl : L.length ≤ 100000) :
    Calls Try.prog 61 #[v] w fun e w' => e = .returned (.tuple #[]) ∧ ∃ L', L'.Perm L ∧ L'.Pairwise (fun x y => ltBZ y.n x.n = false) ∧ OwnI base w' v L' ∧ w.grownBy w' v.ownBlock := by
  have C := Lib.hid (sI_sort L v base w ho hl)
  clear ho
  go_enter Try.func61, Try.ntmps61
  go_wp2_with fail
  refine (C.out).mono ?_
  rintro e w' ⟨rfl, L', a, b, c, d⟩
  go_wp2_with fail
  go_end0
  exact ⟨rfl, L', a, b, c, d⟩
end Go.Proofs.Ythlbpjopkaninaa

namespace Go.Proofs.Ythlbpjopkaninaa
set_option maxRecDepth 100000
open Go.ChangeShapes Go.WideShapes Go.ChangeAt Go.RowKit Go.Shelf Go.Sort
set_option linter.unusedVariables false
set_option linter.unusedSimpArgs false
instance : Inhabited Nte := ⟨⟨0, ⟨#[]⟩, ⟨#[]⟩, false⟩⟩
set_option maxHeartbeats 2000000 in
theorem sN_closure (x y : Nte) (W : World) : Calls Try.prog 42 #[.agg #[.int .u64 (x.st : Nat), .string x.n, .string x.val, .bool x.gone], .agg #[.int .u64 (y.st : Nat), .string y.n, .string y.val, .bool y.gone]] W fun e w' => e = .returned (.int .i64 (cmpT x.n y.n)) ∧ ∃ q os', w' = grow (W.drewN q) os' := by
  have hcon := fun W' => cmpS_any x.n y.n W'
  generalize cmpT x.n y.n = r at hcon ⊢
  go_enter Try.func42, Try.ntmps42
  go_wp2_with (go_at_call 43; refine (hcon _).mono ?_; rintro e w' ⟨rfl, rfl⟩)
  go_ret
  exact ⟨rfl, 0, _, by rw [alloc_eq_grow, alloc_eq_grow, grow_grow]; rfl⟩
theorem sN_lays (blk off size : Nat) (w : World) : CmpLays Try.prog 42 #[] ncl 4 (fun x y : Nte => cmpT x.n y.n) blk off size w :=
  fun _ _ _ _ x y => sN_closure x y _
theorem sN_lt (x y : Nte) : ltOf (fun x y : Nte => cmpT x.n y.n) x y = ltBZ x.n y.n := by
  unfold ltOf cmpT
  cases h1 : ltBZ x.n y.n with
  | true => simp [h1]
  | false => cases h2 : ltBZ y.n x.n <;> simp [h1, h2]
theorem sN_swo : SWO (ltOf fun x y : Nte => cmpT x.n y.n) where
  irrefl x := by rw [sN_lt]; exact ltB_irreflZ _
  trans x y z h1 h2 := by rw [sN_lt] at *; exact ltB_transZ h1 h2
  ntrans x y z h1 h2 := by
    rw [sN_lt] at *
    cases h : ltBZ x.n z.n with
    | false => rfl
    | true =>
      exfalso
      by_cases e : x.n = y.n
      · rw [e, h2] at h; cases h
      · have h3 := ltB_totalZ e h1
        have h4 := ltB_transZ h3 h
        rw [h4] at h2; cases h2
set_option maxHeartbeats 2000000 in
theorem sN_sort (L : List Nte) (v : Value) (base : Nat) (w : World) (ho : OwnW base w v L) (hl : L.length ≤ 100000) :
    Calls Try.prog 41 #[v, .func (.func 42) #[] #[]] w fun e w' => e = .returned (.tuple #[]) ∧ ∃ L', L'.Perm L ∧ L'.Pairwise (fun x y => ltBZ y.n x.n = false) ∧ OwnW base w' v L' ∧ w.grownBy w' v.ownBlock := by
  have ho2 := ho
  rcases ho.2 with ⟨rfl, h0⟩ | ⟨g, cap, cur, rfl, hb, hg, h1, h2, h3, h4⟩
  · have hc := AnyF.slices_SortFunc_none laysSN none 0 (.func (.func 42) #[] #[]) w
    change Calls Try.prog 41 _ _ _ at hc
    refine hc.mono ?_
    rintro e w' ⟨rfl, rfl⟩
    have hL := List.length_eq_zero_iff.1 h0
    subst hL
    exact ⟨rfl, [], List.Perm.refl _, List.Pairwise.nil, ho2, World.grownBy.refl w' _⟩
  · have eg : ∀ args w, (callFunc 42 args).run Try.prog w = .ok (.enter 42 args) w := enters_of Try.func42 (by kernel_rfl) rfl
    have hH : HoldsK ncl 4 w g 0 L.toArray := own_holds (enc := ncl) (k := 4) (fun _ => rfl) (by omega) (n := L.length) (base := base) (T := 39) (cap := cap) ho2 (by simp)
    have hcon := AnyQ.slices_SortFunc laysSN 4 Try.isAgg39 Try.sizeOf39 ncl (fun _ => rfl) (fun x v hv => ncl_one x v hv) (fun x y : Nte => cmpT x.n y.n) sN_swo 42 #[] g 0 cap L.toArray w eg (sN_lays g 0 L.toArray.size w) hH (lt_of_block hg) (by simp; omega)
    change Calls Try.prog 41 _ _ _ at hcon
    rw [List.size_toArray] at hcon
    refine hcon.mono ?_
    rintro e w' ⟨rfl, d', n, os, hp, hs, rfl⟩
    have hsz : d'.size = L.length := by have := hp.1; simpa using this
    obtain ⟨o1, o2⟩ := own_sorted (enc := ncl) (k := 4) (fun _ => rfl) (by omega : 0 < 4) (d := L.toArray) (d' := d') (m := n) (os := os) (n := L.length) (base := base) (T := 39) (cap := cap) ho2 (by simp) (by simpa using hsz)
    refine ⟨rfl, d'.toList, ?_, ?_, ?_, o2⟩
    · have := hp.2.2
      have e : List.take L.length d'.toList = d'.toList := List.take_of_length_le (by simp [hsz])
      simp [hsz, e] at this
      exact this
    · rw [List.pairwise_iff_getElem]
      intro i j hi hj hij
      have := hs i j (Nat.zero_le _) hij (by simpa [hsz] using hj)
      rw [sN_lt, getElem!_pos d' j (by simpa using hj), getElem!_pos d' i (by simpa using hi)] at this
      simpa using this
    · have e2 : d'.toList.length = L.length := by simp [hsz]
      unfold OwnW
      rw [e2]
      exact o1
end Go.Proofs.Ythlbpjopkaninaa

namespace Go.Proofs.Ythlbpjopkaninaa
set_option maxRecDepth 100000
open Go.ChangeShapes Go.WideShapes Go.ChangeAt Go.RowKit
open Go.ChangeMaps (setBlock)
set_option linter.unusedVariables false
set_option linter.unusedSimpArgs false
theorem OwnI.kp {base r : Nat} {w w' : World} {v : Value} {l : List Itm} (h : OwnI base w v l) (g : Kp r w w') (hn : r < base) : OwnI base w' v l := by
  refine World.ownsRow.kept h g ?_
  cases e : v.ownBlock with
  | none => exact .inl rfl
  | some k => refine .inr fun e2 => ?_; injection e2 with e2; have := (World.ownsRow.lt h k e).1; omega
theorem MapI.grown {p n : Nat} {L : List Itm} {w w' : World} {row : Option Nat} (h : MapI p n L w) (g : w.grownBy w' row) (hn : some p ≠ row) : MapI p n L w' := by
  obtain ⟨es, c, hb, hm⟩ := h; exact ⟨es, c, (g.block p (lt_of_block hb) hn).trans hb, hm⟩
theorem withI_ok {l : List Itm} {c : List Chg} (hs : ∀ x ∈ l, okIZ x) (hk : ∀ x ∈ c, okH x) (i : Nat) : ∀ x ∈ (c.take i).foldl stepC (ofI l), okIZ x :=
  foldC_all (p := fun n v => n.size ≤ maxLen ∧ v.size ≤ maxLen) (fun x hx => hs x (ofI_sub hx)) (fun x hx => by have := hk x (List.mem_of_mem_take hx); exact ⟨this.1, this.2.1⟩)
set_option maxHeartbeats 16000000 in
theorem with_anyZ (l : List Itm) (c : List Chg) (lv cv : Value) (w : World) (hl : l.length ≤ 40000) (hc : c.length ≤ 60000) (hs : ∀ x ∈ l, okIZ x) (ht : Itms w w.heap.size lv l) (hk : Chgs w w.heap.size cv c) :
    Calls Try.prog 45 #[lv, cv] w fun e w' => ∃ v', e = .returned v' ∧ OwnI w.heap.size w' v' (withI l c) ∧ Q w w' := by
  have G := Lib.hid (gathered_any l lv w (by omega) ht)
  obtain ⟨B, c2, rfl, -, -, hok2, hcells2⟩ := hk
  have HD := Lib.hid hcells2
  have HK := Lib.hid hok2
  have HOK := Lib.hid (withI_ok hs hok2)
  have HAS := Lib.hid (fun i => foldC_asc (c.take i) (ofI_asc l))
  clear hcells2 hok2 hs ht
  go_enter Try.func45, Try.ntmps45
  go_wp2_with fail
  refine (G.out).mono ?_
  rintro e w1 ⟨p, rfl, hp, m1, q1⟩
  clear G
  have m1' : MapI p (l.length + 0) ((c.take 0).foldl stepC (ofI l)) w1 := m1
  clear m1
  go_wp2_with fail
  go_loopw [15] (fun I wr => ∃ i : Nat, i ≤ c.length ∧ I = .int .i64 i ∧ MapI p (l.length + i) ((c.take i).foldl stepC (ofI l)) wr ∧ Q w wr) (fun I _ => c.length - (intOf I).toNat)
  case atStart => exact ⟨0, Nat.zero_le _, rfl, m1', q1⟩
  case round =>
    obtain ⟨i, hil, rfl, hm, hbel⟩ := hrel
    clear m1' q1
    by_cases hlt : i < c.length
    · obtain ⟨a, hAa, ha, hat⟩ := HD.out i hlt
      subst hAa
      obtain ⟨c0, c1, c2⟩ := hat.keep (by rw [add_block]; exact ha) fun p hp => hbel.cell hp
      have hy0 := HK.out _ (List.getElem_mem hlt)
      have HW := withI_take l c i hlt
      obtain ⟨y, hy⟩ : ∃ y, y = c[i] := ⟨_, rfl⟩
      rw [← hy] at c0 c1 c2 hy0 HW
      clear hy hat
      have hilt : (i : Int) < (c.length : Int) := by omega
      have hm2 := hm.on ((Q.refl wr).alloc (.cells #[.string y.n, .string y.val, .bool y.gone] 37))
      have qb := hbel.trans ((Q.refl wr).alloc (.cells #[.string y.n, .string y.val, .bool y.gone] 37))
      have hsz : ∀ x ∈ (c.take i).foldl stepC (ofI l), x.n.size ≤ maxLen := fun x hx => (HOK.out i x hx).1
      cases hg : y.gone with
      | true =>
        rw [stepC_gone (HAS.out i) hg] at HW
        rw [hg] at hm2 qb c2
        obtain ⟨w5, hrun, m5, g5, -⟩ := hm2.del hsz hy0.1 0
        have q5 := g5.q qb hp
        rw [← HW] at m5
        have RUN := Lib.hid hrun
        clear hrun hm hm2 g5 hy0 qb HW hsz hg
        go_wp2_with (at_delete; refine wpList_run_del RUN.out rfl _ _ rfl rfl rfl ?_)
        go_roundw
        case rel => exact ⟨i + 1, by omega, by go_num, m5.more (by omega), q5⟩
        case measure => simp [intOf]; omega
      | false =>
        have HW2 : (c.take (i + 1)).foldl stepC (ofI l) = inG Itm.n ((c.take i).foldl stepC (ofI l)) ⟨y.n, y.val⟩ := by rw [HW, stepC, if_neg (by rw [hg]; decide)]
        rw [hg] at hm2 qb c2
        obtain ⟨w5, hrun, m5, g5, -⟩ := hm2.put hsz (x := ⟨y.n, y.val⟩) hy0.1
        have q5 := g5.q qb hp
        rw [← HW2] at m5
        rw [itm] at hrun
        have RUN := Lib.hid hrun
        clear hrun hm hm2 g5 hy0 qb HW HW2 hsz hg
        go_wp2_with (at_mapUpdate; refine wpList_run_put RUN.out rfl _ _ _ rfl rfl rfl rfl ?_)
        go_roundw
        case rel => exact ⟨i + 1, by omega, by go_num, m5.more (by omega), q5⟩
        case measure => simp [intOf]; omega
    · have h2 : ¬ (i : Int) < (c.length : Int) := by omega
      obtain ⟨wo, hwo⟩ : ∃ x, x = wr := ⟨_, rfl⟩
      subst hwo
      rw [List.take_of_length_le (by omega)] at hm
      have HL : Hid (∀ x ∈ withI l c, okIZ x) := Lib.hid (by have := HOK.out c.length; rw [List.take_of_length_le (Nat.le_refl _)] at this; exact this)
      have HA := Lib.hid (withI_asc l c)
      have hm : MapI p (l.length + i) (withI l c) wo := hm
      obtain ⟨L, hL⟩ : ∃ L, L = withI l c := ⟨_, rfl⟩
      rw [← hL] at hm HL HA
      have HLE := Lib.hid hL
      clear hL HOK HAS HK
      obtain ⟨es, clock, hmb, hmi, hes⟩ := hm
      have HMI := Lib.hid hmi
      have hes2 : es.size ≤ 100000 := by omega
      clear hmi hes
      go_wp2_with (refine wpList_range_w _ rfl _ rfl _ _ _ rfl hmb ?_)
      have hpi : p < wo.heap.size := lt_of_block hmb
      have it0 : (wo.alloc (.mapIter (some p) clock #[] clock)).heap[wo.heap.size]? = some (.mapIter (some p) clock #[] clock) := heap_new _ _
      have qa := hbel.trans ((Q.refl wo).alloc (.mapIter (some p) clock #[] clock))
      have mb0 := (((Q.refl wo).alloc (.mapIter (some p) clock #[] clock)).block p hpi).trans hmb
      have sz0 : (wo.alloc (.mapIter (some p) clock #[] clock)).heap.size = wo.heap.size + 1 := World.size_alloc ..
      obtain ⟨pi, hpi2⟩ : ∃ z, z = wo.heap.size := ⟨_, rfl⟩
      obtain ⟨y1, hy1⟩ : ∃ z, z = wo.alloc (.mapIter (some p) clock #[] clock) := ⟨_, rfl⟩
      rw [← hy1, ← hpi2] at it0
      rw [← hy1] at qa mb0
      rw [← hy1, ← hpi2] at sz0
      rw [← hy1, ← hpi2]
      rw [← hpi2] at hpi
      have hwpi : w.heap.size ≤ pi := by rw [hpi2]; exact hbel.size
      clear hy1 hpi2 hmb hbel
      have HIT := Lib.hid it0
      have HMB := Lib.hid mb0
      have HQA := Lib.hid qa
      have HSZ := Lib.hid sz0
      clear it0 mb0 qa sz0
      go_wp2_with fail
      go_loopw [8] (fun O wr => ∃ (seen : Array Nat) (c0 : Nat) (acc : List Itm), wr.heap[pi]? = some (.mapIter (some p) clock seen c0) ∧ clock ≤ c0 ∧ wr.heap[p]? = some (.map es clock) ∧ OwnI (pi + 1) wr O acc ∧ ColI es seen acc ∧ Q w wr ∧ pi < wr.heap.size) (fun _ wr => leftW wr pi es)
      case atStart => exact ⟨#[], clock, [], HIT.out, Nat.le_refl _, HMB.out, OwnI.nil _ _, ColI.nil _, HQA.out, by have := HSZ.out; omega⟩
      case round =>
        obtain ⟨seen, c0, acc, hit, hc0, hmr, hown, hcol, q, hlt2⟩ := hrel
        clear HIT HMB HQA HSZ
        have hold : ∀ e ∈ es.toList, e.born < clock := fun e he => (HMI.out.1 e he).1
        have HCOL := Lib.hid hcol
        clear hcol
        by_cases hleft : (leftOf es seen).size = 0
        · have HALL := Lib.hid (HCOL.out.all HMI.out hleft)
          have hal : acc.length ≤ 100000 := by have := HCOL.out.1; omega
          have C := Lib.hid (fun (x : World) (h : OwnI (pi + 1) x u8 acc) => sortItems_any acc u8 (pi + 1) x h (by omega))
          go_wp2_with (first | (refine wpList_next_w _ rfl _ rfl _ _ _ _ _ _ _ rfl hit hmr hold hc0 (fun _ => ?_) (fun e he => (leftW_empty hleft he).elim)) | (go_at_call 61; refine (C.out _ hown).mono ?_; rintro e w6 ⟨rfl, L', hp6, hs6, o6, g6⟩))
          go_ret
          have hfin : L' = L := sorted_is hp6 hs6 HCOL.out.2.2.2 HA.out HALL.out
          subst hfin
          exact ⟨_, rfl, by rw [← HLE.out]; exact OwnI.low o6 (by omega), Below.grown q g6 q.size (fun k hk => by have := (World.ownsRow.lt hown k hk).1; omega)⟩
        · go_upto_region 13 with (first
            | (refine wpList_next_w _ rfl _ rfl _ _ _ _ _ _ _ rfl hit hmr hold hc0 (fun h => absurd h hleft) ?_; intro en hen w5 hw5; have hmem := (mem_left hen).1; obtain ⟨-, x', hxm, hk', hv'⟩ := HMI.out.1 en hmem; have k5 := map_kp w5 pi (.mapIter (some p) clock (seen.push en.born) clock); have hit5 := iterW_set (iterW_at hit hw5) (o' := .mapIter (some p) clock (seen.push en.born) clock); have q50 := iterW_q q hw5; have lt5 : pi < w5.heap.size := lt_of_block (iterW_at hit hw5); have mr5 := iterW_at hmr hw5; have o50 : OwnI (pi + 1) w5 u8 acc := by (rcases hw5 with rfl | rfl; exact hown; exact OwnI.on hown (Q.refl _).drew))
            | (refine wpList_entry_w _ rfl _ rfl _ _ _ _ _ _ en rfl hit5 (((k5.block p (lt_of_block mr5) (by simp; omega))).trans mr5) hmem HMI.out.2.1 ?_; rw [hk', hv', itm]))
          have hmr6 := (k5.block p (lt_of_block mr5) (by simp; omega)).trans mr5
          have q6 := k5.q q50 hwpi
          have o6 := o50.kp k5 (Nat.lt_succ_self _)
          have lt6 : pi < (setBlock w5 pi (.mapIter (some p) clock (seen.push en.born) clock)).heap.size := Nat.lt_of_lt_of_le lt5 k5.size
          have HC2 := Lib.hid (HCOL.out.step HMI.out hen hk' hv')
          have HMS : Hid ((leftOf es (seen.push en.born)).size < (leftOf es seen).size) := Lib.hid (left_shrinks _ _ _ hen)
          obtain ⟨ws, hws⟩ : ∃ z, z = setBlock w5 pi (.mapIter (some p) clock (seen.push en.born) clock) := ⟨_, rfl⟩
          rw [← hws] at hit5 hmr6 q6 o6 lt6 ⊢
          have hal : acc.length ≤ 100000 := by have := HCOL.out.1; omega
          clear hws hw5 k5 q50 lt5 mr5 o50 hmr hown q hlt2 hen hmem hxm hleft
          have hitH := Lib.hid hit5
          clear hit5
          go_wp2_with (at_builtin; refine wpList_snoc_itm _ rfl _ _ 45 58 Try.underlying45 rfl (pi + 1) (ws.heap.size + 1) _ acc x' rfl rfl (cells_itm2 ws _ x' 58) (World.ownsRow.alloc (World.ownsRow.alloc o6 _) _) ?hb ?hl ?_; (case hb => simp; omega); (case hl => omega); intro v8 w8 o8 g8)
          have q8 : Q w w8 := Below.grown ((q6.alloc _).alloc _) g8 (by have := q6.size; simp; omega) (fun k hk => by have := (World.ownsRow.lt o6 k hk).1; omega)
          have e8 : ∀ k, k < pi + 1 → w8.heap[k]? = ws.heap[k]? := fun k hk => (g8.block k (by simp; omega) (fun e => by have := (World.ownsRow.lt o6 k e.symm).1; omega)).trans (Below.block (((Q.refl ws).alloc _).alloc _) k (by omega))
          have it8 := (e8 pi (Nat.lt_succ_self _)).trans hitH.out
          have mr8 := (e8 p (by omega)).trans hmr6
          go_roundw
          case rel => exact ⟨_, _, _, it8, Nat.le_refl _, mr8, o8, HC2.out, q8, lt_of_block it8⟩
          case measure => simp only [leftW, it8, hit]; exact HMS.out
end Go.Proofs.Ythlbpjopkaninaa

namespace Go.Proofs.Ythlbpjopkaninaa
set_option maxRecDepth 100000
open Go.ChangeShapes Go.WideShapes Go.ChangeAt Go.RowKit
open Go.ChangeMaps (setBlock)
set_option linter.unusedVariables false
set_option linter.unusedSimpArgs false
set_option maxRecDepth 100000
set_option maxHeartbeats 8000000 in
theorem counting_any (l : List Nte) (v : Value) (w : World) (hl : l.length ≤ 100000) (ht : Ntes w w.heap.size v l) :
    Calls Try.prog 40 #[v] w fun e w' => ∃ p, e = .returned (.map (some p)) ∧ w.heap.size ≤ p ∧ MapN p l.length (cntN l) w' ∧ Q w w' := by
  obtain ⟨A, c, rfl, -, -, hok, hcells⟩ := ht
  have HC := Lib.hid hcells
  have HK := Lib.hid hok
  have HI : Hid (∀ i, ∀ x ∈ cntN (l.take i), x.n.size ≤ maxLen) := Lib.hid (fun i x hx => (hok x (List.mem_of_mem_take (cntN_sub hx))).2.1)
  clear hcells hok
  have hmm := @run_makeMap Try.prog
  have m0 := MapN.made w
  have q0 := (Q.refl w).alloc (.map #[] 0)
  obtain ⟨W0, hW0⟩ : ∃ z, z = w.alloc (.map #[] 0) := ⟨_, rfl⟩
  rw [← hW0] at m0 q0
  have HM0 := Lib.hid m0
  have HQ0 := Lib.hid q0
  clear m0 q0
  go_enter Try.func40, Try.ntmps40
  go_wp2_with fail
  rw [← hW0]
  clear hW0 hmm
  go_loopw [11] (fun I wr => ∃ i : Nat, i ≤ l.length ∧ I = .int .i64 i ∧ MapN w.heap.size i (cntN (l.take i)) wr ∧ Q w wr) (fun I _ => l.length - (intOf I).toNat)
  case atStart => exact ⟨0, Nat.zero_le _, rfl, HM0.out, HQ0.out⟩
  case round =>
    obtain ⟨i, hil, rfl, hm, hbel⟩ := hrel
    by_cases hlt : i < l.length
    · obtain ⟨a, hAa, ha, hat⟩ := HC.out i hlt
      subst hAa
      obtain ⟨c0, c1, c2, c3⟩ := hat.keep (by rw [add_block]; exact ha) fun p hp => hbel.cell hp
      have hy0 := HK.out _ (List.getElem_mem hlt)
      have HW := cntN_take l i hlt
      obtain ⟨y, hy⟩ : ∃ y, y = l[i] := ⟨_, rfl⟩
      rw [← hy] at c0 c1 c2 c3 hy0 HW
      clear hy hat
      have hilt : (i : Int) < (l.length : Int) := by omega
      have hm1 := hm.on ((Q.refl wr).alloc (.cells #[.int .u64 (y.st : Nat), .string y.n, .string y.val, .bool y.gone] 39))
      have q1 := hbel.alloc (.cells #[.int .u64 (y.st : Nat), .string y.n, .string y.val, .bool y.gone] 39)
      rcases hm1.look (cntN_asc _) (HI.out i) hy0.2.1 with ⟨x, hx, hxn, hrun⟩ | ⟨hno, hrun⟩
      · rw [nte] at hrun
        rw [stepN_some (cntN_asc _) hx hxn] at HW
        have hm2 := hm1.on ((Q.refl _).alloc (.cells #[.int .u64 (x.st : Nat), .string x.n, .string x.val, .bool x.gone] 39))
        have q2 := q1.alloc (.cells #[.int .u64 (x.st : Nat), .string x.n, .string x.val, .bool x.gone] 39)
        by_cases g : x.st ≤ y.st
        · rw [if_pos g] at HW
          have g' : (x.st : Int) ≤ (y.st : Int) := by omega
          obtain ⟨w5, hrun5, m5, g5, -⟩ := hm2.put (HI.out i) (x := y) hy0.2.1
          have q5 := g5.q q2 (Nat.le_refl _)
          rw [← HW] at m5
          rw [nte] at hrun5
          have RUN := Lib.hid hrun5
          clear hrun5 hm hm1 hm2 g5 hy0 q1 q2 HW hx hxn g
          go_wp2_with (at_mapUpdate; refine wpList_run_put RUN.out rfl _ _ _ rfl rfl rfl rfl ?_)
          go_roundw
          case rel => exact ⟨i + 1, by omega, by go_num, m5, q5⟩
          case measure => simp [intOf]; omega
        · rw [if_neg g] at HW
          have g' : ¬ (x.st : Int) ≤ (y.st : Int) := by omega
          rw [← HW] at hm2
          have m5 := hm2.more (Nat.le_succ i)
          clear hm hm1 hm2 hy0 q1 HW hx hxn g
          go_wp2_with fail
          go_roundw
          case rel => exact ⟨i + 1, by omega, by go_num, m5, q2⟩
          case measure => simp [intOf]; omega
      · rw [nte] at hrun
        rw [stepN_none hno] at HW
        have hm2 := hm1.on ((Q.refl _).alloc (.cells #[.int .u64 (0 : Nat), .string ⟨#[]⟩, .string ⟨#[]⟩, .bool false] 39))
        have q2 := q1.alloc (.cells #[.int .u64 (0 : Nat), .string ⟨#[]⟩, .string ⟨#[]⟩, .bool false] 39)
        obtain ⟨w5, hrun5, m5, g5, -⟩ := hm2.put (HI.out i) (x := y) hy0.2.1
        have q5 := g5.q q2 (Nat.le_refl _)
        rw [← HW] at m5
        rw [nte] at hrun5
        have RUN := Lib.hid hrun5
        clear hrun5 hm hm1 hm2 g5 hy0 q1 q2 HW hno
        go_wp2_with (at_mapUpdate; refine wpList_run_put RUN.out rfl _ _ _ rfl rfl rfl rfl ?_)
        go_roundw
        case rel => exact ⟨i + 1, by omega, by go_num, m5, q5⟩
        case measure => simp [intOf]; omega
    · have h2 : ¬ (i : Int) < (l.length : Int) := by omega
      rw [List.take_of_length_le (by omega)] at hm
      go_wp2
      go_ret
      exact ⟨_, rfl, Nat.le_refl _, hm.more hil, hbel⟩
end Go.Proofs.Ythlbpjopkaninaa

namespace Go.Proofs.Ythlbpjopkaninaa
set_option maxRecDepth 100000
open Go.ChangeShapes Go.WideShapes Go.ChangeAt Go.RowKit
open Go.ChangeMaps (setBlock)
set_option linter.unusedVariables false
set_option linter.unusedSimpArgs false
set_option maxRecDepth 100000
theorem OwnW.kp {base r : Nat} {w w' : World} {v : Value} {l : List Nte} (h : OwnW base w v l) (k : Kp r w w') (hr : r < base) : OwnW base w' v l := by
  rcases h.2 with ⟨rfl, h0⟩ | ⟨g, cap, cur, rfl, hb, hg, h1, h2, h3, h4⟩
  · exact ⟨h.1, .inl ⟨rfl, h0⟩⟩
  · exact ⟨h.1, .inr ⟨g, cap, cur, rfl, hb, (k.block g (lt_of_block hg) (by simp; omega)).trans hg, h1, h2, h3, h4⟩⟩
set_option maxHeartbeats 16000000 in
theorem countN_any (l : List Nte) (v : Value) (w : World) (hl : l.length ≤ 100000) (ht : Ntes w w.heap.size v l) :
    Calls Try.prog 21 #[v] w fun e w' => ∃ v', e = .returned v' ∧ OwnW w.heap.size w' v' (cntN l) ∧ Q w w' := by
  have G := Lib.hid (counting_any l v w hl ht)
  have HA := Lib.hid (cntN_asc l)
  obtain ⟨L, hL⟩ : ∃ L, L = cntN l := ⟨_, rfl⟩
  rw [← hL] at G HA
  have HLE := Lib.hid hL
  clear hL ht
  go_enter Try.func21, Try.ntmps21
  go_wp2_with fail
  refine (G.out).mono ?_
  rintro e w1 ⟨p, rfl, hp, hm, q1⟩
  clear G
  obtain ⟨es, clock, hmb, hmi, hes⟩ := hm
  have HMI := Lib.hid hmi
  have hes2 : es.size ≤ 100000 := by omega
  clear hmi hes
  go_wp2_with (refine wpList_range_n _ rfl _ rfl _ _ _ rfl hmb ?_)
  have hpi : p < w1.heap.size := lt_of_block hmb
  have it0 : (w1.alloc (.mapIter (some p) clock #[] clock)).heap[w1.heap.size]? = some (.mapIter (some p) clock #[] clock) := heap_new _ _
  have qa := q1.trans ((Q.refl w1).alloc (.mapIter (some p) clock #[] clock))
  have mb0 := (((Q.refl w1).alloc (.mapIter (some p) clock #[] clock)).block p hpi).trans hmb
  have sz0 : (w1.alloc (.mapIter (some p) clock #[] clock)).heap.size = w1.heap.size + 1 := World.size_alloc ..
  obtain ⟨pi, hpi2⟩ : ∃ z, z = w1.heap.size := ⟨_, rfl⟩
  obtain ⟨y1, hy1⟩ : ∃ z, z = w1.alloc (.mapIter (some p) clock #[] clock) := ⟨_, rfl⟩
  rw [← hy1, ← hpi2] at it0
  rw [← hy1] at qa mb0
  rw [← hy1, ← hpi2] at sz0
  rw [← hy1, ← hpi2]
  rw [← hpi2] at hpi
  have hwpi : w.heap.size ≤ pi := by rw [hpi2]; exact q1.size
  clear hy1 hpi2 hmb q1
  have HIT := Lib.hid it0
  have HMB := Lib.hid mb0
  have HQA := Lib.hid qa
  have HSZ := Lib.hid sz0
  clear it0 mb0 qa sz0
  (try go_wp2_with fail)
  simp only [Act.put, PS]
  go_loopw [3] (fun O wr => ∃ (seen : Array Nat) (c0 : Nat) (acc : List Nte), wr.heap[pi]? = some (.mapIter (some p) clock seen c0) ∧ clock ≤ c0 ∧ wr.heap[p]? = some (.map es clock) ∧ OwnW (pi + 1) wr O acc ∧ ColN es seen acc ∧ Q w wr ∧ pi < wr.heap.size) (fun _ wr => leftW wr pi es)
  case atStart => exact ⟨#[], clock, [], HIT.out, Nat.le_refl _, HMB.out, OwnW.nil _ _, ColN.nil _, HQA.out, by have := HSZ.out; omega⟩
  case round =>
    obtain ⟨seen, c0, acc, hit, hc0, hmr, hown, hcol, q, hlt2⟩ := hrel
    clear HIT HMB HQA HSZ
    have hold : ∀ e ∈ es.toList, e.born < clock := fun e he => (HMI.out.1 e he).1
    have HCOL := Lib.hid hcol
    clear hcol
    by_cases hleft : (leftOf es seen).size = 0
    · have HALL := Lib.hid (HCOL.out.all HMI.out hleft)
      have hal : acc.length ≤ 100000 := by have := HCOL.out.1; omega
      have C := Lib.hid (fun (x : World) (h : OwnW (pi + 1) x u3 acc) => sN_sort acc u3 (pi + 1) x h (by omega))
      go_wp2_with (first | (refine wpList_next_w _ rfl _ rfl _ _ _ _ _ _ _ rfl hit hmr hold hc0 (fun _ => ?_) (fun e he => (leftW_empty hleft he).elim)) | (go_at_call 41; refine (C.out _ hown).mono ?_; rintro e w6 ⟨rfl, L', hp6, hs6, o6, g6⟩))
      go_ret
      have hfin : L' = L := sortedN_is hp6 hs6 HCOL.out.2.2.2 HA.out HALL.out
      subst hfin
      exact ⟨_, rfl, by rw [← HLE.out]; exact OwnW.low o6 (by omega), Below.grown q g6 q.size (fun k hk => by have := (World.ownsRow.lt hown k hk).1; omega)⟩
    · go_upto_region 5 with (first
        | (refine wpList_next_w _ rfl _ rfl _ _ _ _ _ _ _ rfl hit hmr hold hc0 (fun h => absurd h hleft) ?_; intro en hen w5 hw5; have hmem := (mem_left hen).1; obtain ⟨-, x', hxm, hk', hv'⟩ := HMI.out.1 en hmem; have k5 := map_kp w5 pi (.mapIter (some p) clock (seen.push en.born) clock); have hit5 := iterW_set (iterW_at hit hw5) (o' := .mapIter (some p) clock (seen.push en.born) clock); have q50 := iterW_q q hw5; have lt5 : pi < w5.heap.size := lt_of_block (iterW_at hit hw5); have mr5 := iterW_at hmr hw5; have o50 : OwnW (pi + 1) w5 u3 acc := by (rcases hw5 with rfl | rfl; exact hown; exact OwnW.on hown (Q.refl _).drew))
        | (refine wpList_entry_w _ rfl _ rfl _ _ _ _ _ _ en rfl hit5 (((k5.block p (lt_of_block mr5) (by simp; omega))).trans mr5) hmem HMI.out.2.1 ?_; rw [hk', hv', nte]))
      have hmr6 := (k5.block p (lt_of_block mr5) (by simp; omega)).trans mr5
      have q6 := k5.q q50 hwpi
      have o6 := o50.kp k5 (Nat.lt_succ_self _)
      have lt6 : pi < (setBlock w5 pi (.mapIter (some p) clock (seen.push en.born) clock)).heap.size := Nat.lt_of_lt_of_le lt5 k5.size
      have HC2 := Lib.hid (HCOL.out.step HMI.out hen hk' hv')
      have HMS : Hid ((leftOf es (seen.push en.born)).size < (leftOf es seen).size) := Lib.hid (left_shrinks _ _ _ hen)
      obtain ⟨ws, hws⟩ : ∃ z, z = setBlock w5 pi (.mapIter (some p) clock (seen.push en.born) clock) := ⟨_, rfl⟩
      rw [← hws] at hit5 hmr6 q6 o6 lt6 ⊢
      have hal : acc.length ≤ 100000 := by have := HCOL.out.1; omega
      clear hws hw5 k5 q50 lt5 mr5 o50 hmr hown q hlt2 hen hmem hxm hleft
      have hitH := Lib.hid hit5
      clear hit5
      go_wp2_with (at_builtin; refine wpList_snoc_nte _ rfl _ _ 22 39 Try.underlying22 rfl (pi + 1) (ws.heap.size + 1) _ acc x' rfl rfl (cells_nte2 ws _ x' 39) (World.ownsRow.alloc (World.ownsRow.alloc o6 _) _) ?hb ?hl ?_; (case hb => simp; omega); (case hl => omega); intro v8 w8 o8 g8)
      have q8 : Q w w8 := Below.grown ((q6.alloc _).alloc _) g8 (by have := q6.size; simp; omega) (fun k hk => by have := (World.ownsRow.lt o6 k hk).1; omega)
      have e8 : ∀ k, k < pi + 1 → w8.heap[k]? = ws.heap[k]? := fun k hk => (g8.block k (by simp; omega) (fun e => by have := (World.ownsRow.lt o6 k e.symm).1; omega)).trans (Below.block (((Q.refl ws).alloc _).alloc _) k (by omega))
      have it8 := (e8 pi (Nat.lt_succ_self _)).trans hitH.out
      have mr8 := (e8 p (by omega)).trans hmr6
      go_roundw
      case rel => exact ⟨_, _, _, it8, Nat.le_refl _, mr8, o8, HC2.out, q8, lt_of_block it8⟩
      case measure => simp only [leftW, it8, hit]; exact HMS.out
end Go.Proofs.Ythlbpjopkaninaa

namespace Go.Proofs.Ythlbpjopkaninaa
set_option maxRecDepth 100000
open Go.ChangeShapes Go.WideShapes Go.ChangeAt Go.RowKit
set_option linter.unusedVariables false
set_option linter.unusedSimpArgs false
set_option maxRecDepth 100000
theorem nsame_ne {x y : Nte} (h : x ≠ y) : (x.st ≠ y.st) ∨ (x.st = y.st ∧ x.n ≠ y.n) ∨ (x.st = y.st ∧ x.n = y.n ∧ x.val ≠ y.val) ∨ (x.st = y.st ∧ x.n = y.n ∧ x.val = y.val ∧ x.gone ≠ y.gone) := by
  obtain ⟨a, b, c, d⟩ := x
  obtain ⟨a', b', c', d'⟩ := y
  simp only [ne_eq, Nte.mk.injEq, not_and] at h ⊢
  by_cases h1 : a = a'
  · by_cases h2 : b = b'
    · by_cases h3 : c = c'
      · exact .inr (.inr (.inr ⟨h1, h2, h3, h h1 h2 h3⟩))
      · exact .inr (.inr (.inl ⟨h1, h2, h3⟩))
    · exact .inr (.inl ⟨h1, h2⟩)
  · exact .inl h1
set_option maxHeartbeats 2000000 in
theorem nsame_any (a b : List Nte) (va vb : Value) (w : World) (hl : a.length ≤ 100000) (hlb : b.length ≤ 100000) (ha : Ntes w w.heap.size va a) (hb : Ntes w w.heap.size vb b) :
    Calls Try.prog 16 #[va, vb] w fun e w' => e = .returned (.bool (decide (a = b))) ∧ D w w' := by
  obtain ⟨R, hRe⟩ : ∃ R, R = decide (a = b) := ⟨_, rfl⟩
  rw [← hRe]
  have hR : (R = true ∧ a = b) ∨ (R = false ∧ a ≠ b) := by
    by_cases h : a = b
    · exact .inl ⟨by rw [hRe]; simp [h], h⟩
    · exact .inr ⟨by rw [hRe]; simp [h], h⟩
  clear hRe
  obtain ⟨A, c, rfl, -, -, -, hca⟩ := ha
  obtain ⟨B, c', rfl, -, -, -, hcb⟩ := hb
  have HA := Lib.hid hca
  have HB := Lib.hid hcb
  have HR := Lib.hid hR
  clear hca hcb hR
  by_cases he : a.length = b.length
  · have hen : ((a.length : Int) != (b.length : Int)) = false := by simp [he]
    have HE := Lib.hid he
    clear he
    go_enter Try.func16, Try.ntmps16
    go_wp2_with fail
    go_loopw [5] (fun I wr => ∃ i : Nat, i ≤ a.length ∧ I = .int .i64 i ∧ D w wr ∧ Hid (a.take i = b.take i)) (fun I _ => a.length - (intOf I).toNat)
    case atStart => exact ⟨0, Nat.zero_le _, rfl, D.refl _, Lib.hid (by simp)⟩
    case round =>
      obtain ⟨i, hil, rfl, d, HT⟩ := hrel
      by_cases hlt : i < a.length
      · have hlb2 : i < b.length := by rw [← HE.out]; exact hlt
        obtain ⟨p, rfl, hp, hat⟩ := HA.out i hlt
        obtain ⟨q, rfl, hq, hbt⟩ := HB.out i hlb2
        obtain ⟨m, rfl⟩ := d
        obtain ⟨c0, c1, c2, c3⟩ := hat
        obtain ⟨d0, d1, d2, d3⟩ := hbt
        have h2 : (i : Int) < (b.length : Int) := by omega
        by_cases hxy : a[i] = b[i]
        · have HT2 : Hid (a.take (i + 1) = b.take (i + 1)) := Lib.hid (by rw [List.take_succ_eq_append_getElem hlt, List.take_succ_eq_append_getElem hlb2, HT.out, hxy])
          rw [← hxy] at d0 d1 d2 d3
          obtain ⟨x, hx⟩ : ∃ x, x = a[i] := ⟨_, rfl⟩
          rw [← hx] at c0 c1 c2 c3 d0 d1 d2 d3
          clear hx hxy
          go_wp2_with fail
          go_region
          go_wp2
          go_roundw
          case rel => exact ⟨i + 1, by omega, by go_num, ⟨m + 1, by simp [Nat.add_comm]⟩, HT2⟩
          case measure => simp [intOf]; omega
        · have HV : Hid (R = false) := Lib.hid (by rcases HR.out with ⟨-, h⟩ | ⟨h, -⟩; exact absurd h (list_neG hlt hlb2 hxy); exact h)
          have hne := nsame_ne hxy
          obtain ⟨x, hx⟩ : ∃ x, x = a[i] := ⟨_, rfl⟩
          obtain ⟨y, hy⟩ : ∃ y, y = b[i] := ⟨_, rfl⟩
          rw [← hx] at c0 c1 c2 c3 hne
          rw [← hy] at d0 d1 d2 d3 hne
          clear hx hy hxy
          obtain ⟨xs, xn, xv, xg⟩ := x
          obtain ⟨ys, yn, yv, yg⟩ := y
          simp only at c0 c1 c2 c3 d0 d1 d2 d3 hne
          rcases hne with h | ⟨rfl, h⟩ | ⟨rfl, rfl, h⟩ | ⟨rfl, rfl, rfl, h⟩
          · have h' : ¬ ((xs : Int) = (ys : Int)) := by omega
            go_wp2_with fail
            go_region
            go_wp2
            go_ret
            exact ⟨ret_bool (by rw [HV.out]), (D.drewN ⟨m, rfl⟩ 1)⟩
          · have h' : ¬ (xn.toList = yn.toList) := fun e => h (bl_inj (by rw [← toList_bl, ← toList_bl, e]))
            clear h
            go_wp2_with fail
            go_region
            go_wp2
            go_ret
            exact ⟨ret_bool (by rw [HV.out]), (D.drewN ⟨m, rfl⟩ 1)⟩
          · have h' : ¬ (xv.toList = yv.toList) := fun e => h (bl_inj (by rw [← toList_bl, ← toList_bl, e]))
            clear h
            go_wp2_with fail
            go_region
            go_wp2
            go_ret
            exact ⟨ret_bool (by rw [HV.out]), (D.drewN ⟨m, rfl⟩ 1)⟩
          · skip
            go_wp2_with fail
            go_region
            go_wp2
            go_ret
            exact ⟨ret_bool (by rw [HV.out]), (D.drewN ⟨m, rfl⟩ 1)⟩
      · have HV : Hid (R = true) := Lib.hid (by rcases HR.out with ⟨h, -⟩ | ⟨-, h⟩; exact h; exact absurd (by have := HT.out; rwa [List.take_of_length_le (by omega), List.take_of_length_le (by have := HE.out; omega)] at this) h)
        have h2 : ¬ (i : Int) < (a.length : Int) := by omega
        go_wp2
        go_ret
        exact ⟨ret_bool (by rw [HV.out]), d⟩
  · have HV : Hid (R = false) := Lib.hid (by rcases HR.out with ⟨-, h⟩ | ⟨h, -⟩; exact absurd (congrArg List.length h) he; exact h)
    have hen : ((a.length : Int) != (b.length : Int)) = true := by simp; omega
    clear he
    go_enter Try.func16, Try.ntmps16
    go_wp2
    go_ret
    exact ⟨ret_bool (by rw [HV.out]), D.refl _⟩
end Go.Proofs.Ythlbpjopkaninaa

namespace Go.Proofs.Ythlbpjopkaninaa
set_option maxRecDepth 100000
open Go.ChangeShapes Go.WideShapes Go.ChangeAt Go.RowKit
set_option linter.unusedVariables false
set_option linter.unusedSimpArgs false
set_option maxRecDepth 100000
theorem mapT {α β : Type} (f : α → β) (l : List α) (i : Nat) (h : i < l.length) : (l.take (i + 1)).map f = (l.take i).map f ++ [f l[i]] := by
  rw [List.take_succ_eq_append_getElem h, List.map_append]; rfl
theorem cntN_len (l : List Nte) : (cntN l).length ≤ l.length :=
  apart_len (List.Pairwise.imp (fun {a b} h e => ltB_neZ h (congrArg Nte.n e)) (cntN_asc l)) fun x hx => cntN_sub hx
theorem chg_of {x : Nte} (h : okW x) : okH (chgN x) := ⟨h.2.1, h.2.2.1, trivial⟩
set_option maxHeartbeats 8000000 in
theorem itemsN_any (l : List Nte) (v : Value) (w : World) (hl : l.length ≤ 40000) (ht : Ntes w w.heap.size v l) :
    Calls Try.prog 24 #[v] w fun e w' => ∃ v', e = .returned v' ∧ OwnI w.heap.size w' v' (itN l) ∧ Q w w' := by
  have G := Lib.hid (countN_any l v w (by omega) ht)
  have okLZ : ∀ x ∈ cntN l, okW x := fun x hx => ht.okAll x (cntN_sub hx)
  have lL := Nat.le_trans (cntN_len l) hl
  have HI := itN_with l
  obtain ⟨L, hL⟩ : ∃ L, L = cntN l := ⟨_, rfl⟩
  rw [← hL] at G okLZ lL HI
  have HOK := Lib.hid okLZ
  have HIT := Lib.hid HI
  clear hL ht okLZ HI
  go_enter Try.func24, Try.ntmps24
  go_wp2_with fail
  refine (G.out).mono ?_
  rintro e w1 ⟨v1, rfl, o1, q1⟩
  have r1 := OwnW.read o1 HOK.out
  obtain ⟨A, c, rfl, -, -, -, hcells⟩ := r1
  have HC := Lib.hid hcells
  have HQ1 := Lib.hid q1
  clear G o1 hcells q1
  go_wp2_with fail
  go_loopw [3, 9] (fun O I wr => ∃ i : Nat, i ≤ L.length ∧ I = .int .i64 i ∧ OwnH w1.heap.size wr O ((L.take i).map chgN) ∧ Q w1 wr) (fun _ I _ => L.length - (intOf I).toNat)
  case atStart => exact ⟨0, Nat.zero_le _, rfl, OwnH.nil _ _, Q.refl _⟩
  case round =>
    obtain ⟨i, hil, rfl, hown, hbel⟩ := hrel
    by_cases hlt : i < L.length
    · obtain ⟨a, hAa, ha, hat⟩ := HC.out i hlt
      subst hAa
      obtain ⟨c0, c1, c2, c3⟩ := hat.keep (by rw [add_block]; exact ha) fun p hp => hbel.cell hp
      have HW := Lib.hid (mapT chgN L i hlt)
      have hlen : ((L.take i).map chgN).length ≤ 40000 := by rw [List.length_map, List.length_take]; omega
      obtain ⟨y, hy⟩ : ∃ y, y = L[i] := ⟨_, rfl⟩
      rw [← hy] at c0 c1 c2 c3 HW
      clear hy hat
      have hilt : (i : Int) < (L.length : Int) := by omega
      have hs2 := hbel.size
      have own2 := (hown.on ((Q.refl wr).alloc (.cells #[.int .u64 (y.st : Nat), .string y.n, .string y.val, .bool y.gone] 39))).on ((Q.refl _).alloc (.cells #[.string y.n, .string y.val, .bool y.gone] 37))
      have q2 := (hbel.alloc (.cells #[.int .u64 (y.st : Nat), .string y.n, .string y.val, .bool y.gone] 39)).alloc (.cells #[.string y.n, .string y.val, .bool y.gone] 37)
      go_wp2_with (at_builtin; refine wpList_snoc_chg _ rfl _ _ 42 37 Try.underlying42 rfl w1.heap.size (wr.heap.size + 1) _ _ (chgN y) rfl rfl (cells_chg2 wr _ (chgN y) 37) own2 ?hb ?hl ?_; (case hb => simp; omega); (case hl => omega); intro v8 w8 o8 g8)
      have q8 : Q w1 w8 := Below.grown q2 g8 (by simp; omega) (fun k hk => (World.ownsRow.lt own2 k hk).1)
      have o8 : OwnH w1.heap.size w8 v8 ((L.take (i + 1)).map chgN) := by rw [HW.out]; exact o8
      go_roundw
      case rel => exact ⟨i + 1, by omega, by go_num, o8, q8⟩
      case measure => simp [intOf]; omega
    · have h2 : ¬ (i : Int) < (L.length : Int) := by omega
      rw [List.take_of_length_le (by omega)] at hown
      have rC := OwnH.read hown (fun x hx => by obtain ⟨y, hy, rfl⟩ := List.mem_map.1 hx; exact chg_of (HOK.out y hy))
      have W := Lib.hid (with_anyZ [] (L.map chgN) (.slice none 0 0) u3 wr (by simp) (by rw [List.length_map]; omega) (by simp) (Itms.nil _ _) rC)
      rw [HIT.out] at W
      have qq := HQ1.out.trans hbel
      clear hown rC
      go_wp2_with fail
      refine (W.out).mono ?_
      rintro e w9 ⟨v9, rfl, o9, q9⟩
      go_wp2_with fail
      go_ret
      exact ⟨_, rfl, OwnI.low o9 qq.size, qq.trans q9⟩
set_option maxHeartbeats 4000000 in
theorem lastN_any (l : List Nte) (v : Value) (w : World) (hl : l.length ≤ 1000000) (ht : Ntes w w.heap.size v l) :
    Calls Try.prog 28 #[v] w fun e w' => e = .returned (.int .u64 (lastN l : Nat)) ∧ Q w w' := by
  obtain ⟨A, c, rfl, -, -, hok, hcells⟩ := ht
  have HC := Lib.hid hcells
  clear hcells hok
  go_enter Try.func28, Try.ntmps28
  go_wp2_with fail
  go_loopw [3, 8] (fun M I wr => ∃ i m : Nat, i ≤ l.length ∧ I = .int .i64 i ∧ M = .int .u64 (m : Nat) ∧ Hid (m = lastN (l.take i)) ∧ Q w wr) (fun _ I _ => l.length - (intOf I).toNat)
  case atStart => exact ⟨0, 0, Nat.zero_le _, rfl, rfl, Lib.hid rfl, Q.refl _⟩
  case round =>
    obtain ⟨i, m, hil, rfl, rfl, HM, hbel⟩ := hrel
    by_cases hlt : i < l.length
    · obtain ⟨a, hAa, ha, hat⟩ := HC.out i hlt
      subst hAa
      obtain ⟨c0, c1, c2, c3⟩ := hat.keep (by rw [add_block]; exact ha) fun p hp => hbel.cell hp
      have HW := Lib.hid (lastN_take l i hlt)
      obtain ⟨y, hy⟩ : ∃ y, y = l[i] := ⟨_, rfl⟩
      rw [← hy] at c0 c1 c2 c3 HW
      clear hy hat
      have hilt : (i : Int) < (l.length : Int) := by omega
      have q2 := hbel.alloc (.cells #[.int .u64 (y.st : Nat), .string y.n, .string y.val, .bool y.gone] 39)
      have HN : Hid (max m y.st = lastN (l.take (i + 1))) := Lib.hid (by rw [HW.out, ← HM.out])
      have hmx : ((max m y.st : Nat) : Int) = max (m : Int) (y.st : Int) := by omega
      have HMX := Lib.hid hmx
      clear hmx
      go_wp2_with fail
      go_roundw
      case rel => exact ⟨i + 1, max m y.st, by omega, by go_num, by rw [HMX.out], HN, q2⟩
      case measure => simp [intOf]; omega
    · have h2 : ¬ (i : Int) < (l.length : Int) := by omega
      have HN : Hid (m = lastN l) := Lib.hid (by rw [HM.out, List.take_of_length_le (by omega)])
      go_wp2
      go_ret
      exact ⟨by rw [← HN.out]; rfl, hbel⟩
theorem stampT (c : List Chg) (s i : Nat) (h : i < c.length) : stampN (c.take (i + 1)) s = stampN (c.take i) s ++ [⟨s, c[i].n, c[i].val, c[i].gone⟩] := mapT _ _ _ h
set_option maxHeartbeats 4000000 in
theorem stamped_any (c : List Chg) (s : Nat) (v : Value) (w : World) (hl : c.length ≤ 1000000) (ht : Chgs w w.heap.size v c) :
    Calls Try.prog 30 #[v, .int .u64 (s : Nat)] w fun e w' => ∃ v', e = .returned v' ∧ OwnW w.heap.size w' v' (stampN c s) ∧ Q w w' := by
  obtain ⟨A, c1, rfl, -, -, hok, hcells⟩ := ht
  have HC := Lib.hid hcells
  clear hcells hok
  go_enter Try.func30, Try.ntmps30
  go_wp2_with fail
  go_loopw [5, 10] (fun O I wr => ∃ i : Nat, i ≤ c.length ∧ I = .int .i64 i ∧ OwnW w.heap.size wr O (stampN (c.take i) s) ∧ Q w wr) (fun _ I _ => c.length - (intOf I).toNat)
  case atStart => exact ⟨0, Nat.zero_le _, rfl, OwnW.nil _ _, Q.refl _⟩
  case round =>
    obtain ⟨i, hil, rfl, hown, hbel⟩ := hrel
    by_cases hlt : i < c.length
    · obtain ⟨a, hAa, ha, hat⟩ := HC.out i hlt
      subst hAa
      obtain ⟨c0, c1, c2⟩ := hat.keep (by rw [add_block]; exact ha) fun p hp => hbel.cell hp
      have HW := Lib.hid (stampT c s i hlt)
      have hlen : (stampN (c.take i) s).length ≤ 1000000 := by unfold stampN; rw [List.length_map, List.length_take]; omega
      obtain ⟨y, hy⟩ : ∃ y, y = c[i] := ⟨_, rfl⟩
      rw [← hy] at c0 c1 c2 HW
      clear hy hat
      have hilt : (i : Int) < (c.length : Int) := by omega
      have hs2 := hbel.size
      have own2 := (hown.on ((Q.refl wr).alloc (.cells #[.string y.n, .string y.val, .bool y.gone] 37))).on ((Q.refl _).alloc (.cells #[.int .u64 (s : Nat), .string y.n, .string y.val, .bool y.gone] 39))
      have q2 := (hbel.alloc (.cells #[.string y.n, .string y.val, .bool y.gone] 37)).alloc (.cells #[.int .u64 (s : Nat), .string y.n, .string y.val, .bool y.gone] 39)
      go_wp2_with (at_builtin; refine wpList_snoc_nte _ rfl _ _ 22 39 Try.underlying22 rfl w.heap.size (wr.heap.size + 1) _ _ ⟨s, y.n, y.val, y.gone⟩ rfl rfl (cells_nte2 wr _ ⟨s, y.n, y.val, y.gone⟩ 39) own2 ?hb ?hl ?_; (case hb => simp; omega); (case hl => omega); intro v8 w8 o8 g8)
      have q8 : Q w w8 := Below.grown q2 g8 (by simp; omega) (fun k hk => (World.ownsRow.lt own2 k hk).1)
      have o8 : OwnW w.heap.size w8 v8 (stampN (c.take (i + 1)) s) := by rw [HW.out]; exact o8
      go_roundw
      case rel => exact ⟨i + 1, by omega, by go_num, o8, q8⟩
      case measure => simp [intOf]; omega
    · have h2 : ¬ (i : Int) < (c.length : Int) := by omega
      rw [List.take_of_length_le (by omega)] at hown
      go_wp2
      go_ret
      exact ⟨_, rfl, hown, hbel⟩
theorem liveT_yes {all l : List Nte} {i : Nat} (h : i < l.length) (k : best all l[i].n = some l[i]) : liveN all (l.take (i + 1)) = liveN all (l.take i) ++ [l[i]] := by
  unfold liveN; rw [List.take_succ_eq_append_getElem h, List.filter_append]; simp [k]
theorem liveT_no {all l : List Nte} {i : Nat} (h : i < l.length) (k : ¬ best all l[i].n = some l[i]) : liveN all (l.take (i + 1)) = liveN all (l.take i) := by
  unfold liveN; rw [List.take_succ_eq_append_getElem h, List.filter_append]; simp [k]
end Go.Proofs.Ythlbpjopkaninaa

namespace Go.Proofs.Ythlbpjopkaninaa
set_option maxRecDepth 100000
open Go.ChangeShapes Go.WideShapes Go.ChangeAt Go.RowKit
set_option linter.unusedVariables false
set_option linter.unusedSimpArgs false
set_option maxRecDepth 100000
theorem cells_nte3 (w : World) (o o2 : Obj) (x : Nte) (t : TypeId) : ∀ j u, (ncl x)[j]? = some u → (((w.alloc o).alloc o2).alloc (.cells (ncl x).toArray t)).cell? ((⟨w.heap.size + 1 + 1, 0, none⟩ : Addr).add j) = some u := by
  have h := cells_onente ((w.alloc o).alloc o2) x t
  rw [World.size_alloc, World.size_alloc] at h
  exact h
set_option maxHeartbeats 8000000 in
theorem liveN_any (all l : List Nte) (va vl : Value) (w : World) (hl : l.length ≤ 100000) (hla : all.length ≤ 100000) (ha : Ntes w w.heap.size va all) (ht : Ntes w w.heap.size vl l) :
    Calls Try.prog 26 #[va, vl] w fun e w' => ∃ v', e = .returned v' ∧ OwnW w.heap.size w' v' (liveN all l) ∧ Q w w' := by
  have G := Lib.hid (counting_any all va w hla ha)
  have HKA : Hid (∀ x ∈ cntN all, x.n.size ≤ maxLen) := Lib.hid (fun x hx => (ha.okAll x (cntN_sub hx)).2.1)
  obtain ⟨A, c, rfl, -, -, hok, hcells⟩ := ht
  have HC := Lib.hid hcells
  have HK := Lib.hid hok
  clear hcells hok ha
  go_enter Try.func26, Try.ntmps26
  go_wp2_with fail
  refine (G.out).mono ?_
  rintro e w1 ⟨p, rfl, hp, hm, q1⟩
  have HM := Lib.hid hm
  have HQ1 := Lib.hid q1
  clear G hm q1 hp
  go_wp2_with fail
  go_loopw [6, 15] (fun O I wr => ∃ i : Nat, i ≤ l.length ∧ I = .int .i64 i ∧ OwnW w1.heap.size wr O (liveN all (l.take i)) ∧ Q w1 wr) (fun _ I _ => l.length - (intOf I).toNat)
  case atStart => exact ⟨0, Nat.zero_le _, rfl, OwnW.nil _ _, Q.refl _⟩
  case round =>
    obtain ⟨i, hil, rfl, hown, hbel⟩ := hrel
    by_cases hlt : i < l.length
    · obtain ⟨a, hAa, ha, hat⟩ := HC.out i hlt
      subst hAa
      obtain ⟨c0, c1, c2, c3⟩ := hat.keep (by rw [add_block]; exact ha) fun p hp => (HQ1.out.trans hbel).cell hp
      have hy0 := HK.out _ (List.getElem_mem hlt)
      have WY := Lib.hid (liveT_yes (all := all) hlt)
      have WN := Lib.hid (liveT_no (all := all) hlt)
      have hlen : (liveN all (l.take i)).length ≤ 100000 := Nat.le_trans (List.length_filter_le ..) (by rw [List.length_take]; omega)
      obtain ⟨y, hy⟩ : ∃ y, y = l[i] := ⟨_, rfl⟩
      rw [← hy] at c0 c1 c2 c3 hy0 WY WN
      clear hy hat
      have hilt : (i : Int) < (l.length : Int) := by omega
      have hs2 := hbel.size
      have hm1 := HM.out.on (hbel.alloc (.cells #[.int .u64 (y.st : Nat), .string y.n, .string y.val, .bool y.gone] 39))
      have q1 := hbel.alloc (.cells #[.int .u64 (y.st : Nat), .string y.n, .string y.val, .bool y.gone] 39)
      rcases hm1.look (cntN_asc _) HKA.out hy0.2.1 with ⟨x, hx, hxn, hrun⟩ | ⟨hno, hrun⟩
      · rw [nte] at hrun
        have hbx : best all y.n = some x := by rw [← hxn]; exact cntN_mem.1 hx
        have q2 := q1.alloc (.cells #[.int .u64 (x.st : Nat), .string x.n, .string x.val, .bool x.gone] 39)
        by_cases exy : y = x
        · subst exy
          have W9 := Lib.hid (WY.out hbx)
          clear WY WN hx hxn hbx hm1 hy0
          have own2 := ((hown.on ((Q.refl wr).alloc (.cells #[.int .u64 (y.st : Nat), .string y.n, .string y.val, .bool y.gone] 39))).on ((Q.refl _).alloc (.cells #[.int .u64 (y.st : Nat), .string y.n, .string y.val, .bool y.gone] 39))).on ((Q.refl _).alloc (.cells #[.int .u64 (y.st : Nat), .string y.n, .string y.val, .bool y.gone] 39))
          have q3 := q2.alloc (.cells #[.int .u64 (y.st : Nat), .string y.n, .string y.val, .bool y.gone] 39)
          go_wp2_with (at_builtin; refine wpList_snoc_nte _ rfl _ _ 22 39 Try.underlying22 rfl w1.heap.size (wr.heap.size + 1 + 1) _ _ y rfl rfl (cells_nte3 wr _ _ y 39) own2 ?hb ?hl ?_; (case hb => simp; omega); (case hl => omega); intro v8 w8 o8 g8)
          have q8 : Q w1 w8 := Below.grown q3 g8 (by simp; omega) (fun k hk => (World.ownsRow.lt own2 k hk).1)
          have o8 : OwnW w1.heap.size w8 v8 (liveN all (l.take (i + 1))) := by rw [W9.out]; exact o8
          go_roundw
          case rel => exact ⟨i + 1, by omega, by go_num, o8, q8⟩
          case measure => simp [intOf]; omega
        · have W9 := Lib.hid (WN.out (fun e => by rw [hbx] at e; injection e with e; exact exy e.symm))
          have hne := nsame_ne exy
          have own2 := (hown.on ((Q.refl wr).alloc (.cells #[.int .u64 (y.st : Nat), .string y.n, .string y.val, .bool y.gone] 39))).on ((Q.refl _).alloc (.cells #[.int .u64 (x.st : Nat), .string x.n, .string x.val, .bool x.gone] 39))
          rw [← W9.out] at own2
          clear WY WN hx hxn hbx hm1 hy0 exy
          obtain ⟨ys, yn, yv, yg⟩ := y
          obtain ⟨xs, xn, xv, xg⟩ := x
          simp only at c0 c1 c2 c3 hne hrun q1 q2 own2 W9
          rcases hne with h | ⟨rfl, h⟩ | ⟨rfl, rfl, h⟩ | ⟨rfl, rfl, rfl, h⟩
          · have h' : ¬ ((ys : Int) = (xs : Int)) := by omega
            go_wp2_with fail
            go_roundw
            case rel => exact ⟨i + 1, by omega, by go_num, own2, q2⟩
            case measure => simp [intOf]; omega
          · have h' : ¬ (yn.toList = xn.toList) := fun e => h (bl_inj (by rw [← toList_bl, ← toList_bl, e]))
            clear h
            go_wp2_with fail
            go_roundw
            case rel => exact ⟨i + 1, by omega, by go_num, own2, q2⟩
            case measure => simp [intOf]; omega
          · have h' : ¬ (yv.toList = xv.toList) := fun e => h (bl_inj (by rw [← toList_bl, ← toList_bl, e]))
            clear h
            go_wp2_with fail
            go_roundw
            case rel => exact ⟨i + 1, by omega, by go_num, own2, q2⟩
            case measure => simp [intOf]; omega
          · go_wp2_with fail
            go_roundw
            case rel => exact ⟨i + 1, by omega, by go_num, own2, q2⟩
            case measure => simp [intOf]; omega
      · rw [nte] at hrun
        have W9 := Lib.hid (WN.out (fun e => by have h1 := best_some e; exact hno y (cntN_mem.2 e) rfl))
        have own2 := (hown.on ((Q.refl wr).alloc (.cells #[.int .u64 (y.st : Nat), .string y.n, .string y.val, .bool y.gone] 39))).on ((Q.refl _).alloc (.cells #[.int .u64 (0 : Nat), .string ⟨#[]⟩, .string ⟨#[]⟩, .bool false] 39))
        have q2 := q1.alloc (.cells #[.int .u64 (0 : Nat), .string ⟨#[]⟩, .string ⟨#[]⟩, .bool false] 39)
        rw [← W9.out] at own2
        clear WY WN hno hm1 hy0
        go_wp2_with fail
        go_roundw
        case rel => exact ⟨i + 1, by omega, by go_num, own2, q2⟩
        case measure => simp [intOf]; omega
    · have h2 : ¬ (i : Int) < (l.length : Int) := by omega
      rw [List.take_of_length_le (by omega)] at hown
      go_wp2
      go_ret
      exact ⟨_, rfl, OwnW.low hown HQ1.out.size, HQ1.out.trans hbel⟩
end Go.Proofs.Ythlbpjopkaninaa

