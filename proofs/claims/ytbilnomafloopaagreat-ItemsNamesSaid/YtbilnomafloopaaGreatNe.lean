/-
  More plain facts on items: how many, how great; the last one of a name; what is told of changes. Contracts of the document's last and With. Plain facts on what is told of changes. Contract of the document's Diff. Contracts of the program's gathered; of cmp.Compare at texts, and of the sorts' closures. What is gathered of a map's entries, in whatever order they come; what a sort makes of it. The sorts of the library at items, changes and buckets, laid: the table of numbers, and each body held against the library's own. Contracts of the sorts of items and of changes. Contract of the program's With.
-/
import Derived.Test.YtbilnomafloopaaGreatNd
import Derived.Deep.DeepCutAuto
import Derived.Test.YtbilnomafloopaaGreatRows
import Derived.Shelf.SlSortCmp.NoneTotal
namespace Go.Proofs.YtbilnomafloopaaGreat
set_option maxRecDepth 100000
set_option linter.unusedVariables false
set_option linter.unusedSimpArgs false
theorem filt_two {α : Type} (p q : α → Bool) (h : ∀ x, p x = true → q x = false) (l : List α) : (l.filter p).length + (l.filter q).length ≤ l.length := by
  induction l with
  | nil => simp
  | cons x r ih =>
    simp only [List.filter_cons]
    have hx := h x
    split <;> split <;> simp_all <;> omega
theorem inG_len {α : Type} (f : α → ByteArray) (l : List α) (x : α) : (inG f l x).length ≤ l.length + 1 := by
  unfold inG
  rw [List.length_append, List.length_cons]
  have := filt_two (fun y => ltBZ (f y) (f x)) (fun y => ltBZ (f x) (f y)) (fun y h => ltB_asymmZ h) l
  omega
theorem foldI_len (l : List Itm) (o : List Itm) : (l.foldl (inG Itm.n) o).length ≤ o.length + l.length := by
  induction l generalizing o with
  | nil => simp
  | cons x r ih =>
    have h1 := ih (inG Itm.n o x)
    have h2 := inG_len Itm.n o x
    rw [List.foldl_cons, List.length_cons]; omega
theorem foldI_sub {l o : List Itm} {x : Itm} (h : x ∈ l.foldl (inG Itm.n) o) : x ∈ o ∨ x ∈ l := by
  induction l generalizing o with
  | nil => exact .inl h
  | cons y r ih =>
    rcases ih h with h | h
    · rcases inG_mem.1 h with rfl | ⟨h, -⟩
      · exact .inr (by simp)
      · exact .inl h
    · exact .inr (List.mem_cons_of_mem _ h)
theorem ofI_sub {l : List Itm} {x : Itm} (h : x ∈ ofI l) : x ∈ l := by
  rcases foldI_sub h with h | h
  · cases h
  · exact h
theorem ofI_take (l : List Itm) (i : Nat) (h : i < l.length) : ofI (l.take (i + 1)) = inG Itm.n (ofI (l.take i)) l[i] := by
  unfold ofI
  rw [List.take_succ_eq_append_getElem h, List.foldl_append]; rfl
theorem withI_take (l : List Itm) (c : List Chg) (i : Nat) (h : i < c.length) : (c.take (i + 1)).foldl stepC (ofI l) = stepC ((c.take i).foldl stepC (ofI l)) c[i] := by
  rw [List.take_succ_eq_append_getElem h, List.foldl_append]; rfl
/-- What holds of all names and values that come in holds of all that there are. -/
theorem stepC_all {p : ByteArray → ByteArray → Prop} {o : List Itm} {c : Chg} (h : ∀ x ∈ o, p x.n x.val) (hc : p c.n c.val) : ∀ x ∈ stepC o c, p x.n x.val := by
  intro x hx
  have hin : x ∈ inG Itm.n o ⟨c.n, c.val⟩ := by
    unfold stepC at hx
    split at hx
    · exact (List.mem_filter.1 hx).1
    · exact hx
  rcases inG_mem.1 hin with rfl | ⟨k, -⟩
  · exact hc
  · exact h x k
theorem foldC_all {p : ByteArray → ByteArray → Prop} {c : List Chg} {o : List Itm} (h : ∀ x ∈ o, p x.n x.val) (hc : ∀ x ∈ c, p x.n x.val) : ∀ x ∈ c.foldl stepC o, p x.n x.val := by
  induction c generalizing o with
  | nil => exact h
  | cons y r ih => exact ih (stepC_all h (hc y (by simp))) (fun x hx => hc x (List.mem_cons_of_mem _ hx))
/-- The last item of a name, and whether there is one. -/
def LastI (l : List Itm) (k : ByteArray) (s : ByteArray) (b : Bool) : Prop :=
  (b = true ∧ ∃ i, ∃ h : i < l.length, l[i] = ⟨k, s⟩ ∧ ∀ j (h : j < l.length), i < j → l[j].n ≠ k) ∨ (b = false ∧ s = ⟨#[]⟩ ∧ ∀ x ∈ l, x.n ≠ k)
/-- These are the changes from one to another, rising. -/
def DiffIs (a b : List Itm) (c : List Chg) : Prop := Asc Chg.n c ∧ ∀ x, x ∈ c ↔ DiffC a b x
theorem DiffIs.same {a b : List Itm} {c d : List Chg} (h : DiffIs a b c) (k : DiffIs a b d) : c = d := Asc.same h.1 k.1 fun x => (h.2 x).trans (k.2 x).symm
end Go.Proofs.YtbilnomafloopaaGreat

namespace Go.Proofs.YtbilnomafloopaaGreat
set_option maxRecDepth 100000
open Go.ChangeShapes Go.WideShapes Go.ChangeAt Go.RowKit
set_option linter.unusedVariables false
set_option linter.unusedSimpArgs false
end Go.Proofs.YtbilnomafloopaaGreat

namespace Go.Proofs.YtbilnomafloopaaGreat
set_option maxRecDepth 100000
set_option linter.unusedVariables false
set_option linter.unusedSimpArgs false
def lookI (A : List Itm) (k : ByteArray) : Option ByteArray := (A.find? (fun y => decide (y.n = k))).map (·.val)
theorem lookI_mem {A : List Itm} {k s : ByteArray} (h : lookI A k = some s) : ⟨k, s⟩ ∈ A := by
  unfold lookI at h
  cases e : A.find? (fun y => decide (y.n = k)) with
  | none => rw [e] at h; cases h
  | some y =>
    have h1 : y.n = k := by simpa using List.find?_some e
    rw [e] at h
    have h2 : y.val = s := by injection h
    have h3 := List.mem_of_find?_eq_some e
    subst h1 h2
    exact h3
theorem lookI_no {A : List Itm} {k : ByteArray} (h : lookI A k = none) : ∀ x ∈ A, x.n ≠ k := by
  intro x hx e
  unfold lookI at h
  cases e2 : A.find? (fun y => decide (y.n = k)) with
  | none => exact absurd (List.find?_eq_none.1 e2 _ hx) (by simp [e])
  | some y => rw [e2] at h; cases h
/-- What is told of a name. -/
def chgOf (A B : List Itm) (k : ByteArray) : List Chg :=
  match lookI A k, lookI B k with
  | none, some s => [⟨k, s, false⟩]
  | some t, some s => if t = s then [] else [⟨k, s, false⟩]
  | some _, none => [⟨k, ⟨#[]⟩, true⟩]
  | none, none => []
theorem chgOf_name {A B : List Itm} {k : ByteArray} {x : Chg} (h : x ∈ chgOf A B k) : x.n = k := by
  unfold chgOf at h
  split at h
  · rw [List.mem_singleton] at h; rw [h]
  · split at h
    · cases h
    · rw [List.mem_singleton] at h; rw [h]
  · rw [List.mem_singleton] at h; rw [h]
  · cases h
theorem chgOf_one (A B : List Itm) (k : ByteArray) : (chgOf A B k).length ≤ 1 := by
  unfold chgOf
  split
  · simp
  · split <;> simp
  · simp
  · simp
theorem chgOf_iff {A B : List Itm} (hA : Asc Itm.n A) (hB : Asc Itm.n B) {x : Chg} : x ∈ chgOf A B x.n ↔ DiffC A B x := by
  obtain ⟨k, v, g⟩ := x
  unfold chgOf DiffC
  simp only
  cases ea : lookI A k with
  | none =>
    have na := lookI_no ea
    cases eb : lookI B k with
    | none =>
      have nb := lookI_no eb
      simp only [List.not_mem_nil, false_iff]
      rintro (⟨x, hx, -, e⟩ | ⟨y, hy, -, e⟩)
      · injection e with e1 e2 e3; exact nb x hx e1.symm
      · injection e with e1 e2 e3; exact na y hy e1.symm
    | some s =>
      have mb := lookI_mem eb
      simp only [List.mem_singleton]
      constructor
      · intro e
        exact .inl ⟨⟨k, s⟩, mb, fun h => na _ h rfl, e⟩
      · rintro (⟨x, hx, -, e⟩ | ⟨y, hy, -, e⟩)
        · injection e with e1 e2 e3
          have := hB.one hx mb e1.symm
          subst this
          rw [e2, e3]
        · injection e with e1 e2 e3; exact absurd e1.symm (na y hy)
  | some t =>
    have ma := lookI_mem ea
    cases eb : lookI B k with
    | none =>
      have nb := lookI_no eb
      simp only [List.mem_singleton]
      constructor
      · intro e
        exact .inr ⟨⟨k, t⟩, ma, nb, e⟩
      · rintro (⟨x, hx, -, e⟩ | ⟨y, hy, -, e⟩)
        · injection e with e1 e2 e3; exact absurd e1.symm (nb x hx)
        · injection e with e1 e2 e3; rw [e2, e3]
    | some s =>
      have mb := lookI_mem eb
      by_cases hts : t = s
      · subst hts
        simp only [if_pos, List.not_mem_nil, false_iff]
        rintro (⟨x, hx, hn, e⟩ | ⟨y, hy, hn, e⟩)
        · injection e with e1 e2 e3
          have := hB.one hx mb e1.symm
          subst this
          exact hn ma
        · injection e with e1 e2 e3; exact hn _ mb e1
      · simp only [if_neg hts, List.mem_singleton]
        constructor
        · intro e
          exact .inl ⟨⟨k, s⟩, mb, fun h => hts (by have := hA.one h ma rfl; injection this with _ h2; exact h2.symm), e⟩
        · rintro (⟨x, hx, hn, e⟩ | ⟨y, hy, hn, e⟩)
          · injection e with e1 e2 e3
            have := hB.one hx mb e1.symm
            subst this
            rw [e2, e3]
          · injection e with e1 e2 e3; exact absurd e1 (hn _ mb)
def diffP (A B all : List Itm) : List Chg := all.flatMap fun x => chgOf A B x.n
theorem diffP_len (A B all : List Itm) : (diffP A B all).length ≤ all.length := by
  unfold diffP
  induction all with
  | nil => simp
  | cons x r ih => rw [List.flatMap_cons, List.length_append, List.length_cons]; have := chgOf_one A B x.n; omega
theorem diffP_asc (A B : List Itm) {all : List Itm} (h : Asc Itm.n all) : Asc Chg.n (diffP A B all) := by
  induction all with
  | nil => exact Asc.nil
  | cons x r ih =>
    obtain ⟨h1, h2⟩ := List.pairwise_cons.1 h
    unfold diffP Asc
    rw [List.flatMap_cons, List.pairwise_append]
    refine ⟨?_, ih h2, fun a ha b hb => ?_⟩
    · have h1 := chgOf_one A B x.n
      match e : chgOf A B x.n, h1 with
      | [], _ => exact List.Pairwise.nil
      | [a], _ => exact List.pairwise_singleton _ _
      | a :: b :: r, h1 => simp at h1
    · obtain ⟨y, hy, hb2⟩ := List.mem_flatMap.1 hb
      rw [chgOf_name ha, chgOf_name hb2]
      exact h1 y hy
theorem diffP_is {A B all : List Itm} (hA : Asc Itm.n A) (hB : Asc Itm.n B) (h : Asc Itm.n all) (hk : ∀ k, (∃ x ∈ all, x.n = k) ↔ ((∃ x ∈ A, x.n = k) ∨ ∃ x ∈ B, x.n = k)) : DiffIs A B (diffP A B all) := by
  refine ⟨diffP_asc A B h, fun x => ⟨fun hx => ?_, fun hx => ?_⟩⟩
  · obtain ⟨y, hy, h2⟩ := List.mem_flatMap.1 hx
    have := chgOf_name h2
    rw [← this] at h2
    exact (chgOf_iff hA hB).1 h2
  · have hm := (chgOf_iff hA hB).2 hx
    have : (∃ y ∈ A, y.n = x.n) ∨ ∃ y ∈ B, y.n = x.n := by
      rcases hx with ⟨y, hy, -, e⟩ | ⟨y, hy, -, e⟩
      · exact .inr ⟨y, hy, by rw [e]⟩
      · exact .inl ⟨y, hy, by rw [e]⟩
    obtain ⟨z, hz, e⟩ := (hk x.n).2 this
    exact List.mem_flatMap.2 ⟨z, hz, by rw [e]; exact hm⟩
/-- The names of all of two. -/
theorem foldI_names (l o : List Itm) (k : ByteArray) : (∃ x ∈ l.foldl (inG Itm.n) o, x.n = k) ↔ ((∃ x ∈ o, x.n = k) ∨ ∃ x ∈ l, x.n = k) := by
  induction l generalizing o with
  | nil => simp
  | cons y r ih =>
    rw [List.foldl_cons, ih]
    constructor
    · rintro (⟨x, hx, e⟩ | ⟨x, hx, e⟩)
      · rcases inG_mem.1 hx with rfl | ⟨hx, -⟩
        · exact .inr ⟨x, by simp, e⟩
        · exact .inl ⟨x, hx, e⟩
      · exact .inr ⟨x, List.mem_cons_of_mem _ hx, e⟩
    · rintro (⟨x, hx, e⟩ | ⟨x, hx, e⟩)
      · by_cases hy : x.n = y.n
        · exact .inl ⟨y, inG_mem.2 (.inl rfl), by rw [← hy, e]⟩
        · exact .inl ⟨x, inG_mem.2 (.inr ⟨hx, hy⟩), e⟩
      · rcases List.mem_cons.1 hx with rfl | hx
        · exact .inl ⟨x, inG_mem.2 (.inl rfl), e⟩
        · exact .inr ⟨x, hx, e⟩
theorem ofI_names (l : List Itm) (k : ByteArray) : (∃ x ∈ ofI l, x.n = k) ↔ ∃ x ∈ l, x.n = k := by
  unfold ofI; rw [foldI_names]; simp
theorem all_names (a b : List Itm) (k : ByteArray) : (∃ x ∈ b.foldl (inG Itm.n) (ofI a), x.n = k) ↔ ((∃ x ∈ ofI a, x.n = k) ∨ ∃ x ∈ ofI b, x.n = k) := by rw [foldI_names, ofI_names b]
theorem rdiff_is (a b : List Itm) : DiffIs (ofI a) (ofI b) (diffP (ofI a) (ofI b) (b.foldl (inG Itm.n) (ofI a))) := diffP_is (ofI_asc a) (ofI_asc b) (foldI_asc b (ofI_asc a)) (all_names a b)
end Go.Proofs.YtbilnomafloopaaGreat

namespace Go.Proofs.YtbilnomafloopaaGreat
set_option maxRecDepth 100000
open Go.ChangeShapes Go.WideShapes Go.ChangeAt Go.RowKit
set_option linter.unusedVariables false
set_option linter.unusedSimpArgs false
theorem cells_chg1 (w : World) (x : Chg) (t : TypeId) : ∀ j u, (hcl x)[j]? = some u → (w.alloc (.cells (hcl x).toArray t)).cell? ((⟨w.heap.size, 0, none⟩ : Addr).add j) = some u := cells_onechg w x t
end Go.Proofs.YtbilnomafloopaaGreat

namespace Go.Proofs.YtbilnomafloopaaGreat
set_option maxRecDepth 100000
open Go.ChangeShapes Go.WideShapes Go.ChangeAt Go.RowKit
set_option linter.unusedVariables false
set_option linter.unusedSimpArgs false
set_option maxHeartbeats 4000000 in
theorem gathered_any (l : List Itm) (v : Value) (w : World) (hl : l.length ≤ 100000) (ht : Itms w w.heap.size v l) :
    Calls Tryz.prog 43 #[v] w fun e w' => ∃ p, e = .returned (.map (some p)) ∧ w.heap.size ≤ p ∧ MapI p l.length (ofI l) w' ∧ Q w w' := by
  obtain ⟨A, c, rfl, -, -, hok, hcells⟩ := ht
  have HC := Lib.hid hcells
  have HK := Lib.hid hok
  have HI : Hid (∀ i, ∀ x ∈ ofI (l.take i), x.n.size ≤ maxLen) := Lib.hid (fun i x hx => (hok x (List.mem_of_mem_take (ofI_sub hx))).1)
  clear hcells hok
  have hmm := @run_makeMap Tryz.prog
  have m0 := MapI.made w
  have q0 := (Q.refl w).alloc (.map #[] 0)
  obtain ⟨W0, hW0⟩ : ∃ z, z = w.alloc (.map #[] 0) := ⟨_, rfl⟩
  rw [← hW0] at m0 q0
  have HM0 := Lib.hid m0
  have HQ0 := Lib.hid q0
  clear m0 q0
  go_enter Tryz.func43, Tryz.ntmps43
  go_wp2_with fail
  rw [← hW0]
  clear hW0 hmm
  go_loopw [9] (fun I wr => ∃ i : Nat, i ≤ l.length ∧ I = .int .i64 i ∧ MapI w.heap.size i (ofI (l.take i)) wr ∧ Q w wr) (fun I _ => l.length - (intOf I).toNat)
  case atStart => exact ⟨0, Nat.zero_le _, rfl, HM0.out, HQ0.out⟩
  case round =>
    obtain ⟨i, hil, rfl, hm, hbel⟩ := hrel
    by_cases hlt : i < l.length
    · obtain ⟨a, hAa, ha, hat⟩ := HC.out i hlt
      subst hAa
      obtain ⟨c0, c1⟩ := hat.keep (by rw [add_block]; exact ha) fun p hp => hbel.cell hp
      have hy0 := HK.out _ (List.getElem_mem hlt)
      have HW := Lib.hid (ofI_take l i hlt)
      obtain ⟨y, hy⟩ : ∃ y, y = l[i] := ⟨_, rfl⟩
      rw [← hy] at c0 c1 hy0 HW
      clear hy hat
      have hilt : (i : Int) < (l.length : Int) := by omega
      obtain ⟨w5, hrun, m5, g5, -⟩ := (hm.on ((Q.refl wr).alloc (.cells #[.string y.n, .string y.val] 68))).put (HI.out i) (x := y) hy0.1
      have q5 := g5.q (hbel.trans ((Q.refl wr).alloc (.cells #[.string y.n, .string y.val] 68))) (Nat.le_refl _)
      rw [← HW.out] at m5
      rw [itm] at hrun
      have RUN := Lib.hid hrun
      clear hrun hm g5 hy0
      go_wp2_with (at_mapUpdate; refine wpList_run_put RUN.out rfl _ _ _ rfl rfl rfl rfl ?_)
      go_roundw
      case rel => exact ⟨i + 1, by omega, by go_num, m5, q5⟩
      case measure => simp [intOf]; omega
    · have h2 : ¬ (i : Int) < (l.length : Int) := by omega
      rw [List.take_of_length_le (by omega)] at hm
      go_wp2
      go_ret
      exact ⟨_, rfl, Nat.le_refl _, hm.more hil, hbel⟩
/-- Two texts held against each other. -/
def cmpT (a b : ByteArray) : Int := if ltBZ a b = true then -1 else if ltBZ b a = true then 1 else 0
set_option maxHeartbeats 1000000 in
theorem cmpS_any (a b : ByteArray) (w : World) : Calls Tryz.prog 46 #[.string a, .string b] w fun e w' => e = .returned (.int .i64 (cmpT a b)) ∧ w' = w := by
  have hg := gtr_formZ a b
  cases h1 : ltBZ a b with
  | true =>
    have HV : Hid (cmpT a b = -1) := Lib.hid (by rw [cmpT, if_pos h1])
    have h3 : Op.bytesLess a.toList b.toList = true := h1
    clear hg h1
    go_enter Tryz.func46, Tryz.ntmps46
    go_wp2
    go_ret
    refine ⟨?_, rfl⟩
    rw [HV.out]
    rfl
  | false =>
    have h3 : Op.bytesLess a.toList b.toList = false := h1
    cases h2 : ltBZ b a with
    | true =>
      have HV : Hid (cmpT a b = 1) := Lib.hid (by rw [cmpT, h1, h2]; rfl)
      rw [h2] at hg
      have h4 : (a.toList == b.toList) = false := key_neZ (fun e => ltB_neZ h2 e.symm)
      clear hg h1 h2
      go_enter Tryz.func46, Tryz.ntmps46
      go_wp2
      go_ret
      refine ⟨?_, rfl⟩
      rw [HV.out]
      rfl
    | false =>
      have HV : Hid (cmpT a b = 0) := Lib.hid (by rw [cmpT, h1, h2]; rfl)
      rw [h2] at hg
      have h4 : (a.toList == b.toList) = true := by
        by_cases e : a = b
        · rw [e]; simp
        · rw [ltB_totalZ e h1] at h2; cases h2
      clear hg h1 h2
      go_enter Tryz.func46, Tryz.ntmps46
      go_wp2
      go_ret
      refine ⟨?_, rfl⟩
      rw [HV.out]
      rfl
end Go.Proofs.YtbilnomafloopaaGreat

namespace Go.Proofs.YtbilnomafloopaaGreat
set_option maxRecDepth 100000
open Go.ChangeShapes Go.WideShapes Go.ChangeAt Go.RowKit
open Go.ChangeMaps (setBlock)
set_option linter.unusedVariables false
set_option linter.unusedSimpArgs false
/-- Of the entries that have come, just these. -/
def ColI (es : Array MapEntry) (seen : Array Nat) (acc : List Itm) : Prop :=
  acc.length + (leftOf es seen).size ≤ es.size ∧ (∀ x ∈ acc, ∃ e ∈ es.toList, seen.contains e.born = true ∧ e.key = .string x.n ∧ e.val = itm x) ∧
  (∀ e ∈ es.toList, seen.contains e.born = true → ∃ x ∈ acc, e.key = .string x.n ∧ e.val = itm x) ∧ acc.Pairwise (fun x y => x.n ≠ y.n)
theorem ColI.nil (es : Array MapEntry) : ColI es #[] [] := by
  refine ⟨?_, by simp, fun e he h => by simp at h, List.Pairwise.nil⟩
  simp only [List.length_nil, Nat.zero_add]
  exact Array.size_filter_le
theorem itm_inj {x y : Itm} (h : itm x = itm y) : x = y := by
  obtain ⟨a, b⟩ := x
  obtain ⟨c, d⟩ := y
  unfold itm at h
  injection h with h
  injection h with h
  injection h with h1 h2
  injection h2 with h2 h3
  injection h1 with h1
  injection h2 with h2
  simp only at h1 h2
  rw [h1, h2]
theorem MI.item {es : List MapEntry} {clock : Nat} {L : List Itm} (h : MI es clock L) {e : MapEntry} (he : e ∈ es) : ∃ x ∈ L, e.key = .string x.n ∧ e.val = itm x := (h.1 e he).2
theorem pair_one {es : List MapEntry} (h : es.Pairwise (fun a b => a.key ≠ b.key)) {a b : MapEntry} (ha : a ∈ es) (hb : b ∈ es) (e : a.key = b.key) : a = b := by
  induction es with
  | nil => cases ha
  | cons z r ih =>
    obtain ⟨h1, h2⟩ := List.pairwise_cons.1 h
    rcases List.mem_cons.1 ha with ea | ka
    · rcases List.mem_cons.1 hb with eb | kb
      · rw [ea, eb]
      · exact absurd (ea ▸ e) (h1 _ kb)
    · rcases List.mem_cons.1 hb with eb | kb
      · exact absurd (eb ▸ e.symm) (h1 _ ka)
      · exact ih h2 ka kb
theorem born_one {es : List MapEntry} (h : (es.map (·.born)).Nodup) {a b : MapEntry} (ha : a ∈ es) (hb : b ∈ es) (e : a.born = b.born) : a = b := by
  induction es with
  | nil => cases ha
  | cons z r ih =>
    rw [List.map_cons, List.nodup_cons] at h
    rcases List.mem_cons.1 ha with ea | ka
    · rcases List.mem_cons.1 hb with eb | kb
      · rw [ea, eb]
      · exact absurd (List.mem_map.2 ⟨b, kb, by rw [← e, ea]⟩) h.1
    · rcases List.mem_cons.1 hb with eb | kb
      · exact absurd (List.mem_map.2 ⟨a, ka, by rw [e, eb]⟩) h.1
      · exact ih h.2 ka kb
theorem ColI.step {es : Array MapEntry} {clock : Nat} {L : List Itm} {seen : Array Nat} {acc : List Itm} (h : ColI es seen acc) (hm : MI es.toList clock L) {e : MapEntry} (he : e ∈ (leftOf es seen).toList) {x : Itm} (hk : e.key = .string x.n) (hv : e.val = itm x) :
    ColI es (seen.push e.born) (acc ++ [x]) := by
  obtain ⟨h1, h2, h3, h4⟩ := h
  obtain ⟨m1, m2⟩ := mem_left he
  have hsh := left_shrinks _ _ _ he
  refine ⟨by rw [List.length_append, List.length_singleton]; omega, fun y hy => ?_, fun f hf hs => ?_, ?_⟩
  · rcases List.mem_append.1 hy with hy | hy
    · obtain ⟨f, hf, a, b, c⟩ := h2 y hy
      exact ⟨f, hf, by simp at a ⊢; exact .inl a, b, c⟩
    · rw [List.mem_singleton] at hy
      subst hy
      exact ⟨e, m1, by simp, hk, hv⟩
  · by_cases hfs : seen.contains f.born = true
    · obtain ⟨y, hy, a, b⟩ := h3 f hf hfs
      exact ⟨y, List.mem_append.2 (.inl hy), a, b⟩
    · have hb : f.born = e.born := by
        simp at hs hfs
        rcases hs with hs | hs
        · exact absurd hs hfs
        · exact hs
      have hfe : f = e := by
        have hn := hm.2.1
        exact (born_one hn hf m1 hb)
      subst hfe
      exact ⟨x, by simp, hk, hv⟩
  · rw [List.pairwise_append]
    refine ⟨h4, List.pairwise_singleton _ _, fun a ha b hb => ?_⟩
    rw [List.mem_singleton] at hb
    subst hb
    intro q
    obtain ⟨f, hf, s, k, -⟩ := h2 a ha
    have : f = e := pair_one hm.2.2.1 hf m1 (by rw [k, hk, q])
    subst this
    rw [m2] at s; cases s
theorem ColI.all {es : Array MapEntry} {clock : Nat} {L : List Itm} {seen : Array Nat} {acc : List Itm} (h : ColI es seen acc) (hm : MI es.toList clock L) (h0 : (leftOf es seen).size = 0) : ∀ x, x ∈ acc ↔ x ∈ L := by
  intro x
  constructor
  · intro hx
    obtain ⟨e, he, -, -, hv⟩ := h.2.1 x hx
    obtain ⟨y, hy, -, hv2⟩ := hm.item he
    rw [hv] at hv2
    rw [itm_inj hv2]; exact hy
  · intro hx
    obtain ⟨e, he, -, hv⟩ := hm.2.2.2 x hx
    have hs : seen.contains e.born = true := by
      cases hc : seen.contains e.born with
      | true => rfl
      | false =>
        have : e ∈ (leftOf es seen) := by
          unfold leftOf
          simp only [Array.mem_filter]
          exact ⟨by simpa using he, by rw [hc]; rfl⟩
        have := Array.size_pos_of_mem this
        omega
    obtain ⟨y, hy, -, hv2⟩ := h.2.2.1 e he hs
    rw [hv] at hv2
    rw [itm_inj hv2]; exact hy
theorem sorted_is {α : Type} {f : α → ByteArray} {acc L' L : List α} (hp : L'.Perm acc) (hs : L'.Pairwise (fun x y => ltBZ (f y) (f x) = false)) (hd : acc.Pairwise (fun x y => f x ≠ f y)) (hL : Asc f L) (hm : ∀ x, x ∈ acc ↔ x ∈ L) : L' = L := by
  have hd2 : L'.Pairwise (fun x y => f x ≠ f y) := (hp.pairwise_iff (fun h => fun e => h e.symm)).2 hd
  refine Asc.same (f := f) ?_ hL fun x => (hp.mem_iff).trans (hm x)
  exact (hd2.and hs).imp fun h => ltB_totalZ (fun e => h.1 e.symm) h.2
end Go.Proofs.YtbilnomafloopaaGreat

namespace Go.Proofs.YtbilnomafloopaaGreat
set_option maxRecDepth 100000
open Go.Shelf
def laysSI_ren : Go.Shelf.Ren := ⟨fun | 6 => 70 | 15 => 81 | 14 => 111 | 28 => 141 | 29 => 142 | 20 => 165 | 21 => 166 | 22 => 167 | 23 => 168 | 24 => 169 | 25 => 170 | 26 => 171 | 27 => 172 | 46 => 195 | 47 => 185 | 48 => 186 | 49 => 196 | 50 => 197 | 57 => 231 | n => n, fun | 22 => 26 | 24 => 68 | 25 => 129 | 3 => 3 | 39 => 146 | 0 => 0 | 53 => 107 | 55 => 47 | 4 => 4 | 46 => 208 | 45 => 207 | 50 => 212 | 5 => 5 | 9 => 9 | 66 => 253 | 70 => 257 | 76 => 286 | 77 => 233 | n => n, fun | n => n⟩
theorem laysSI : Go.Proofs.SlLaysF0.n6 Tryz.prog laysSI_ren := {
  mixed := by kernel_rfl
  f6 := ⟨Tryz.f70.name, by decide, Tryz.func70.trans (congrArg some (by kernel_rfl))⟩
  f14 := ⟨Tryz.f111.name, by decide, Tryz.func111.trans (congrArg some (by kernel_rfl))⟩
  f15 := Tryz.func81.trans (congrArg some (by kernel_rfl))
  f20 := ⟨Tryz.f165.name, by decide, Tryz.func165.trans (congrArg some (by kernel_rfl))⟩
  f21 := ⟨Tryz.f166.name, by decide, Tryz.func166.trans (congrArg some (by kernel_rfl))⟩
  f22 := ⟨Tryz.f167.name, by decide, Tryz.func167.trans (congrArg some (by kernel_rfl))⟩
  f23 := ⟨Tryz.f168.name, by decide, Tryz.func168.trans (congrArg some (by kernel_rfl))⟩
  f24 := ⟨Tryz.f169.name, by decide, Tryz.func169.trans (congrArg some (by kernel_rfl))⟩
  f25 := ⟨Tryz.f170.name, by decide, Tryz.func170.trans (congrArg some (by kernel_rfl))⟩
  f26 := ⟨Tryz.f171.name, by decide, Tryz.func171.trans (congrArg some (by kernel_rfl))⟩
  f27 := ⟨Tryz.f172.name, by decide, Tryz.func172.trans (congrArg some (by kernel_rfl))⟩
  f28 := Tryz.func141.trans (congrArg some (by kernel_rfl))
  f29 := Tryz.func142.trans (congrArg some (by kernel_rfl))
  f46 := ⟨Tryz.f195.name, by decide, Tryz.func195.trans (congrArg some (by kernel_rfl))⟩
  f47 := Tryz.func185.trans (congrArg some (by kernel_rfl))
  f48 := Tryz.func186.trans (congrArg some (by kernel_rfl))
  f49 := ⟨Tryz.f196.name, by decide, Tryz.func196.trans (congrArg some (by kernel_rfl))⟩
  f50 := ⟨Tryz.f197.name, by decide, Tryz.func197.trans (congrArg some (by kernel_rfl))⟩
  f57 := ⟨Tryz.f231.name, by decide, Tryz.func231.trans (congrArg some (by kernel_rfl))⟩
  t0 := Tryz.underlying0
  a0 := Tryz.isAgg0
  z0 := Tryz.sizeOf0
  v0 := Tryz.zeroValue0
  t3 := Tryz.underlying3
  a3 := Tryz.isAgg3
  z3 := Tryz.sizeOf3
  v3 := Tryz.zeroValue3
  t4 := Tryz.underlying4
  a4 := Tryz.isAgg4
  z4 := Tryz.sizeOf4
  v4 := Tryz.zeroValue4
  t5 := Tryz.underlying5
  a5 := Tryz.isAgg5
  z5 := Tryz.sizeOf5
  v5 := Tryz.zeroValue5
  t9 := Tryz.underlying9
  a9 := Tryz.isAgg9
  z9 := Tryz.sizeOf9
  v9 := Tryz.zeroValue9
  t22 := Tryz.underlying26
  a22 := Tryz.isAgg26
  z22 := Tryz.sizeOf26
  v22 := Tryz.zeroValue26
  t25 := Tryz.underlying129
  a25 := Tryz.isAgg129
  z25 := Tryz.sizeOf129
  v25 := Tryz.zeroValue129
  t39 := Tryz.underlying146
  a39 := Tryz.isAgg146
  z39 := Tryz.sizeOf146
  v39 := Tryz.zeroValue146
  t45 := Tryz.underlying207
  a45 := Tryz.isAgg207
  z45 := Tryz.sizeOf207
  v45 := Tryz.zeroValue207
  t46 := Tryz.underlying208
  a46 := Tryz.isAgg208
  z46 := Tryz.sizeOf208
  v46 := Tryz.zeroValue208
  t50 := Tryz.underlying212
  a50 := Tryz.isAgg212
  z50 := Tryz.sizeOf212
  v50 := Tryz.zeroValue212
  t53 := Tryz.underlying107
  a53 := Tryz.isAgg107
  z53 := Tryz.sizeOf107
  v53 := Tryz.zeroValue107
  t55 := Tryz.underlying47
  a55 := Tryz.isAgg47
  z55 := Tryz.sizeOf47
  v55 := Tryz.zeroValue47
  t66 := Tryz.underlying253
  a66 := Tryz.isAgg253
  z66 := Tryz.sizeOf253
  v66 := Tryz.zeroValue253
  t70 := Tryz.underlying257
  a70 := Tryz.isAgg257
  z70 := Tryz.sizeOf257
  v70 := Tryz.zeroValue257
  t76 := Tryz.underlying286
  a76 := Tryz.isAgg286
  z76 := Tryz.sizeOf286
  v76 := Tryz.zeroValue286
  t77 := Tryz.underlying233
  a77 := Tryz.isAgg233
  z77 := Tryz.sizeOf233
  v77 := Tryz.zeroValue233 }
def laysSH_ren : Go.Shelf.Ren := ⟨fun | 6 => 44 | 15 => 81 | 14 => 80 | 28 => 141 | 29 => 142 | 20 => 133 | 21 => 134 | 22 => 135 | 23 => 136 | 24 => 137 | 25 => 138 | 26 => 139 | 27 => 140 | 46 => 184 | 47 => 185 | 48 => 186 | 49 => 187 | 50 => 188 | 57 => 230 | n => n, fun | 22 => 40 | 24 => 72 | 25 => 95 | 3 => 3 | 39 => 146 | 0 => 0 | 53 => 107 | 55 => 47 | 4 => 4 | 46 => 208 | 45 => 207 | 50 => 212 | 5 => 5 | 9 => 9 | 66 => 253 | 70 => 257 | 76 => 286 | 77 => 233 | n => n, fun | n => n⟩
theorem laysSH : Go.Proofs.SlLaysF0.n6 Tryz.prog laysSH_ren := {
  mixed := by kernel_rfl
  f6 := ⟨Tryz.f44.name, by decide, Tryz.func44.trans (congrArg some (by kernel_rfl))⟩
  f14 := ⟨Tryz.f80.name, by decide, Tryz.func80.trans (congrArg some (by kernel_rfl))⟩
  f15 := Tryz.func81.trans (congrArg some (by kernel_rfl))
  f20 := ⟨Tryz.f133.name, by decide, Tryz.func133.trans (congrArg some (by kernel_rfl))⟩
  f21 := ⟨Tryz.f134.name, by decide, Tryz.func134.trans (congrArg some (by kernel_rfl))⟩
  f22 := ⟨Tryz.f135.name, by decide, Tryz.func135.trans (congrArg some (by kernel_rfl))⟩
  f23 := ⟨Tryz.f136.name, by decide, Tryz.func136.trans (congrArg some (by kernel_rfl))⟩
  f24 := ⟨Tryz.f137.name, by decide, Tryz.func137.trans (congrArg some (by kernel_rfl))⟩
  f25 := ⟨Tryz.f138.name, by decide, Tryz.func138.trans (congrArg some (by kernel_rfl))⟩
  f26 := ⟨Tryz.f139.name, by decide, Tryz.func139.trans (congrArg some (by kernel_rfl))⟩
  f27 := ⟨Tryz.f140.name, by decide, Tryz.func140.trans (congrArg some (by kernel_rfl))⟩
  f28 := Tryz.func141.trans (congrArg some (by kernel_rfl))
  f29 := Tryz.func142.trans (congrArg some (by kernel_rfl))
  f46 := ⟨Tryz.f184.name, by decide, Tryz.func184.trans (congrArg some (by kernel_rfl))⟩
  f47 := Tryz.func185.trans (congrArg some (by kernel_rfl))
  f48 := Tryz.func186.trans (congrArg some (by kernel_rfl))
  f49 := ⟨Tryz.f187.name, by decide, Tryz.func187.trans (congrArg some (by kernel_rfl))⟩
  f50 := ⟨Tryz.f188.name, by decide, Tryz.func188.trans (congrArg some (by kernel_rfl))⟩
  f57 := ⟨Tryz.f230.name, by decide, Tryz.func230.trans (congrArg some (by kernel_rfl))⟩
  t0 := Tryz.underlying0
  a0 := Tryz.isAgg0
  z0 := Tryz.sizeOf0
  v0 := Tryz.zeroValue0
  t3 := Tryz.underlying3
  a3 := Tryz.isAgg3
  z3 := Tryz.sizeOf3
  v3 := Tryz.zeroValue3
  t4 := Tryz.underlying4
  a4 := Tryz.isAgg4
  z4 := Tryz.sizeOf4
  v4 := Tryz.zeroValue4
  t5 := Tryz.underlying5
  a5 := Tryz.isAgg5
  z5 := Tryz.sizeOf5
  v5 := Tryz.zeroValue5
  t9 := Tryz.underlying9
  a9 := Tryz.isAgg9
  z9 := Tryz.sizeOf9
  v9 := Tryz.zeroValue9
  t22 := Tryz.underlying40
  a22 := Tryz.isAgg40
  z22 := Tryz.sizeOf40
  v22 := Tryz.zeroValue40
  t25 := Tryz.underlying95
  a25 := Tryz.isAgg95
  z25 := Tryz.sizeOf95
  v25 := Tryz.zeroValue95
  t39 := Tryz.underlying146
  a39 := Tryz.isAgg146
  z39 := Tryz.sizeOf146
  v39 := Tryz.zeroValue146
  t45 := Tryz.underlying207
  a45 := Tryz.isAgg207
  z45 := Tryz.sizeOf207
  v45 := Tryz.zeroValue207
  t46 := Tryz.underlying208
  a46 := Tryz.isAgg208
  z46 := Tryz.sizeOf208
  v46 := Tryz.zeroValue208
  t50 := Tryz.underlying212
  a50 := Tryz.isAgg212
  z50 := Tryz.sizeOf212
  v50 := Tryz.zeroValue212
  t53 := Tryz.underlying107
  a53 := Tryz.isAgg107
  z53 := Tryz.sizeOf107
  v53 := Tryz.zeroValue107
  t55 := Tryz.underlying47
  a55 := Tryz.isAgg47
  z55 := Tryz.sizeOf47
  v55 := Tryz.zeroValue47
  t66 := Tryz.underlying253
  a66 := Tryz.isAgg253
  z66 := Tryz.sizeOf253
  v66 := Tryz.zeroValue253
  t70 := Tryz.underlying257
  a70 := Tryz.isAgg257
  z70 := Tryz.sizeOf257
  v70 := Tryz.zeroValue257
  t76 := Tryz.underlying286
  a76 := Tryz.isAgg286
  z76 := Tryz.sizeOf286
  v76 := Tryz.zeroValue286
  t77 := Tryz.underlying233
  a77 := Tryz.isAgg233
  z77 := Tryz.sizeOf233
  v77 := Tryz.zeroValue233 }
def laysSB_ren : Go.Shelf.Ren := ⟨fun | 6 => 128 | 15 => 81 | 14 => 183 | 28 => 141 | 29 => 142 | 20 => 222 | 21 => 223 | 22 => 224 | 23 => 225 | 24 => 226 | 25 => 227 | 26 => 228 | 27 => 229 | 46 => 251 | 47 => 185 | 48 => 186 | 49 => 252 | 50 => 253 | 57 => 269 | n => n, fun | 22 => 22 | 24 => 60 | 25 => 204 | 3 => 3 | 39 => 146 | 0 => 0 | 53 => 107 | 55 => 47 | 4 => 4 | 46 => 208 | 45 => 207 | 50 => 212 | 5 => 5 | 9 => 9 | 66 => 253 | 70 => 257 | 76 => 286 | 77 => 233 | n => n, fun | n => n⟩
theorem laysSB : Go.Proofs.SlLaysF0.n6 Tryz.prog laysSB_ren := {
  mixed := by kernel_rfl
  f6 := ⟨Tryz.f128.name, by decide, Tryz.func128.trans (congrArg some (by kernel_rfl))⟩
  f14 := ⟨Tryz.f183.name, by decide, Tryz.func183.trans (congrArg some (by kernel_rfl))⟩
  f15 := Tryz.func81.trans (congrArg some (by kernel_rfl))
  f20 := ⟨Tryz.f222.name, by decide, Tryz.func222.trans (congrArg some (by kernel_rfl))⟩
  f21 := ⟨Tryz.f223.name, by decide, Tryz.func223.trans (congrArg some (by kernel_rfl))⟩
  f22 := ⟨Tryz.f224.name, by decide, Tryz.func224.trans (congrArg some (by kernel_rfl))⟩
  f23 := ⟨Tryz.f225.name, by decide, Tryz.func225.trans (congrArg some (by kernel_rfl))⟩
  f24 := ⟨Tryz.f226.name, by decide, Tryz.func226.trans (congrArg some (by kernel_rfl))⟩
  f25 := ⟨Tryz.f227.name, by decide, Tryz.func227.trans (congrArg some (by kernel_rfl))⟩
  f26 := ⟨Tryz.f228.name, by decide, Tryz.func228.trans (congrArg some (by kernel_rfl))⟩
  f27 := ⟨Tryz.f229.name, by decide, Tryz.func229.trans (congrArg some (by kernel_rfl))⟩
  f28 := Tryz.func141.trans (congrArg some (by kernel_rfl))
  f29 := Tryz.func142.trans (congrArg some (by kernel_rfl))
  f46 := ⟨Tryz.f251.name, by decide, Tryz.func251.trans (congrArg some (by kernel_rfl))⟩
  f47 := Tryz.func185.trans (congrArg some (by kernel_rfl))
  f48 := Tryz.func186.trans (congrArg some (by kernel_rfl))
  f49 := ⟨Tryz.f252.name, by decide, Tryz.func252.trans (congrArg some (by kernel_rfl))⟩
  f50 := ⟨Tryz.f253.name, by decide, Tryz.func253.trans (congrArg some (by kernel_rfl))⟩
  f57 := ⟨Tryz.f269.name, by decide, Tryz.func269.trans (congrArg some (by kernel_rfl))⟩
  t0 := Tryz.underlying0
  a0 := Tryz.isAgg0
  z0 := Tryz.sizeOf0
  v0 := Tryz.zeroValue0
  t3 := Tryz.underlying3
  a3 := Tryz.isAgg3
  z3 := Tryz.sizeOf3
  v3 := Tryz.zeroValue3
  t4 := Tryz.underlying4
  a4 := Tryz.isAgg4
  z4 := Tryz.sizeOf4
  v4 := Tryz.zeroValue4
  t5 := Tryz.underlying5
  a5 := Tryz.isAgg5
  z5 := Tryz.sizeOf5
  v5 := Tryz.zeroValue5
  t9 := Tryz.underlying9
  a9 := Tryz.isAgg9
  z9 := Tryz.sizeOf9
  v9 := Tryz.zeroValue9
  t22 := Tryz.underlying22
  a22 := Tryz.isAgg22
  z22 := Tryz.sizeOf22
  v22 := Tryz.zeroValue22
  t25 := Tryz.underlying204
  a25 := Tryz.isAgg204
  z25 := Tryz.sizeOf204
  v25 := Tryz.zeroValue204
  t39 := Tryz.underlying146
  a39 := Tryz.isAgg146
  z39 := Tryz.sizeOf146
  v39 := Tryz.zeroValue146
  t45 := Tryz.underlying207
  a45 := Tryz.isAgg207
  z45 := Tryz.sizeOf207
  v45 := Tryz.zeroValue207
  t46 := Tryz.underlying208
  a46 := Tryz.isAgg208
  z46 := Tryz.sizeOf208
  v46 := Tryz.zeroValue208
  t50 := Tryz.underlying212
  a50 := Tryz.isAgg212
  z50 := Tryz.sizeOf212
  v50 := Tryz.zeroValue212
  t53 := Tryz.underlying107
  a53 := Tryz.isAgg107
  z53 := Tryz.sizeOf107
  v53 := Tryz.zeroValue107
  t55 := Tryz.underlying47
  a55 := Tryz.isAgg47
  z55 := Tryz.sizeOf47
  v55 := Tryz.zeroValue47
  t66 := Tryz.underlying253
  a66 := Tryz.isAgg253
  z66 := Tryz.sizeOf253
  v66 := Tryz.zeroValue253
  t70 := Tryz.underlying257
  a70 := Tryz.isAgg257
  z70 := Tryz.sizeOf257
  v70 := Tryz.zeroValue257
  t76 := Tryz.underlying286
  a76 := Tryz.isAgg286
  z76 := Tryz.sizeOf286
  v76 := Tryz.zeroValue286
  t77 := Tryz.underlying233
  a77 := Tryz.isAgg233
  z77 := Tryz.sizeOf233
  v77 := Tryz.zeroValue233 }
end Go.Proofs.YtbilnomafloopaaGreat

namespace Go.Proofs.YtbilnomafloopaaGreat
set_option maxRecDepth 100000
open Go.ChangeShapes Go.WideShapes Go.ChangeAt Go.RowKit Go.Shelf Go.Sort
set_option linter.unusedVariables false
set_option linter.unusedSimpArgs false
theorem flat_gen {α : Type} (enc : α → List Value) (k : Nat) (hk : ∀ x, (enc x).length = k) (l : List α) (i : Nat) (h : i < l.length) {j : Nat} (hj : j < k) : (l.flatMap enc)[i * k + j]? = (enc l[i])[j]? := by
  induction l generalizing i with
  | nil => simp at h
  | cons x r ih =>
    rw [List.flatMap_cons]
    cases i with
    | zero => rw [List.getElem?_append_left (by rw [hk]; omega)]; simp
    | succ i =>
      have e : (i + 1) * k + j = k + (i * k + j) := by rw [Nat.succ_mul]; omega
      rw [e, List.getElem?_append_right (by rw [hk]; omega), hk, Nat.add_sub_cancel_left, ih i (by simpa using h)]
      rfl
theorem flat_len {α : Type} (enc : α → List Value) (k : Nat) (hk : ∀ x, (enc x).length = k) (l : List α) : (l.flatMap enc).length = l.length * k := by
  induction l with
  | nil => simp
  | cons x r ih => rw [List.flatMap_cons, List.length_append, ih, hk, List.length_cons, Nat.succ_mul]; omega
theorem flatK_eq {α : Type} [Inhabited α] (enc : α → List Value) (k : Nat) (hk : ∀ x, (enc x).length = k) (k0 : 0 < k) (d : Array α) : (flatK enc k d).toList = d.toList.flatMap enc := by
  apply List.ext_getElem?
  intro t
  by_cases ht : t < d.size * k
  · have hq : t / k < d.size := (Nat.div_lt_iff_lt_mul k0).2 ht
    have hr : t % k < k := Nat.mod_lt _ k0
    have e1 : (flatK enc k d).toList[t]? = some ((enc d[t / k]!)[t % k]!) := by
      rw [Array.getElem?_toList, Array.getElem?_eq_getElem (by simpa using ht)]
      have := get_flatK enc k d t ht
      rw [getElem!_pos _ t (by simpa using ht)] at this
      rw [this]
    have e2 : t = t / k * k + t % k := by have := Nat.div_add_mod t k; rw [Nat.mul_comm] at this; exact this.symm
    have hg := flat_gen enc k hk d.toList (t / k) (by simpa using hq) hr
    rw [← e2] at hg
    rw [e1, hg, getElem!_pos d (t / k) hq, Array.getElem_toList, List.getElem?_eq_getElem (by rw [hk]; exact hr), getElem!_pos _ _ (by rw [hk]; exact hr)]
  · rw [List.getElem?_eq_none (by simpa using Nat.le_of_not_lt ht), List.getElem?_eq_none (by rw [flat_len enc k hk]; simpa using Nat.le_of_not_lt ht)]
/-- What a sort leaves of a row of the call's own. -/
theorem own_holds {α : Type} [Inhabited α] {enc : α → List Value} {k : Nat} (hk : ∀ x, (enc x).length = k) (k0 : 0 < k) {w : World} {base T n cap g : Nat} {d : Array α}
    (h : w.ownsRow base T k (.slice (some ⟨g, 0, none⟩) n cap) n (d.toList.flatMap enc)) (hn : d.size = n) : HoldsK enc k w g 0 d := by
  rcases h.2 with ⟨h0, -⟩ | ⟨g', cap', cur, e, -, hg, h1, h2, h3, h4⟩
  · cases h0
  · injection e with e1 e2 e3
    injection e1 with e1
    injection e1 with e1
    subst e1
    intro j hj
    have hj2 : j < n * k := by rw [← hn]; simpa using hj
    have hc : cur[j]? = some (flatK enc k d)[j]! := by
      have e4 : cur.toList[j]? = (flatK enc k d).toList[j]? := by
        rw [flatK_eq enc k hk k0, ← h4, List.getElem?_take, if_pos hj2]
      rw [Array.getElem?_toList, Array.getElem?_toList] at e4
      rw [e4, Array.getElem?_eq_getElem hj, getElem!_pos _ j hj]
    constructor
    · show w.cell? ⟨g, 0 + j, none⟩ = _
      rw [Nat.zero_add]
      simp [World.cell?, hg, hc]
    · simp [World.frozen?, hg]
theorem own_sorted {α : Type} [Inhabited α] {enc : α → List Value} {k : Nat} (hk : ∀ x, (enc x).length = k) (k0 : 0 < k) {w : World} {base T n cap g m : Nat} {d d' : Array α} {os : Array Obj}
    (h : w.ownsRow base T k (.slice (some ⟨g, 0, none⟩) n cap) n (d.toList.flatMap enc)) (hn : d.size = n) (hs : d'.size = d.size) :
    (sortWorldK enc k w g 0 m d' os).ownsRow base T k (.slice (some ⟨g, 0, none⟩) n cap) n (d'.toList.flatMap enc) ∧ w.grownBy (sortWorldK enc k w g 0 m d' os) (some g) := by
  rcases h.2 with ⟨h0, -⟩ | ⟨g', cap', cur, e, hb, hg, h1, h2, h3, h4⟩
  · cases h0
  · injection e with e1 e2 e3
    injection e1 with e1
    injection e1 with e1
    subst e1 e3
    have hlt : g < w.heap.size := lt_of_block hg
    have hF : (flatK enc k d').size = n * k := by rw [size_flatK, hs, hn]
    have hblk : ∀ i, i < w.heap.size → (sortWorldK enc k w g 0 m d' os).heap[i]? = (w.heap.modify g (onCells (putCells id 0 (flatK enc k d'))))[i]? := by
      intro i hi
      show ((w.heap.modify g (onCells (putCells id 0 (flatK enc k d')))) ++ os)[i]? = _
      rw [Array.getElem?_append_left (by simpa using hi)]
    refine ⟨⟨by rw [flat_len enc k hk]; simp [hs, hn], .inr ⟨g, cap, putCells id 0 (flatK enc k d') cur, rfl, hb, ?_, h1, h2, ?_, ?_⟩⟩, rfl, rfl, rfl, ?_, ?_⟩
    · rw [hblk g hlt, Array.getElem?_modify, if_pos rfl, hg]; rfl
    · simp [putCells, h3]
    · have hle : n * k ≤ cur.size := by rw [h3]; exact Nat.mul_le_mul_right _ h1
      rw [← flatK_eq enc k hk k0]
      apply List.ext_getElem?
      intro t
      rw [List.getElem?_take]
      by_cases ht : t < n * k
      · rw [if_pos ht]
        simp only [putCells, Array.getElem?_toList, Array.getElem?_mapIdx]
        rw [Array.getElem?_eq_getElem (by omega), Array.getElem?_eq_getElem (by rw [hF]; exact ht), Option.map_some, if_pos ⟨by omega, by rw [hF]; omega⟩, Nat.sub_zero, getElem!_pos _ t (by rw [hF]; exact ht)]
        rfl
      · rw [if_neg ht, List.getElem?_eq_none (by rw [Array.length_toList, hF]; omega)]
    · show w.heap.size ≤ ((w.heap.modify g (onCells (putCells id 0 (flatK enc k d')))) ++ os).size
      simp
    · intro i hi hne
      rw [hblk i hi, Array.getElem?_modify, if_neg (fun e => hne (by rw [e]))]
instance : Inhabited Itm := ⟨⟨⟨#[]⟩, ⟨#[]⟩⟩⟩
set_option maxHeartbeats 2000000 in
theorem sI_closure (x y : Itm) (W : World) : Calls Tryz.prog 71 #[.agg #[.string x.n, .string x.val], .agg #[.string y.n, .string y.val]] W fun e w' => e = .returned (.int .i64 (cmpT x.n y.n)) ∧ ∃ q os', w' = grow (W.drewN q) os' := by
  have hcon := fun W' => cmpS_any x.n y.n W'
  generalize cmpT x.n y.n = r at hcon ⊢
  go_enter Tryz.func71, Tryz.ntmps71
  go_wp2_with (go_at_call 46; refine (hcon _).mono ?_; rintro e w' ⟨rfl, rfl⟩)
  go_ret
  exact ⟨rfl, 0, _, by rw [alloc_eq_grow, alloc_eq_grow, grow_grow]; rfl⟩
theorem sI_lays (blk off size : Nat) (w : World) : CmpLays Tryz.prog 71 #[] icl 2 (fun x y : Itm => cmpT x.n y.n) blk off size w :=
  fun _ _ _ _ x y => sI_closure x y _
theorem sI_lt (x y : Itm) : ltOf (fun x y : Itm => cmpT x.n y.n) x y = ltBZ x.n y.n := by
  unfold ltOf cmpT
  cases h1 : ltBZ x.n y.n with
  | true => simp [h1]
  | false => cases h2 : ltBZ y.n x.n <;> simp [h1, h2]
theorem sI_swo : SWO (ltOf fun x y : Itm => cmpT x.n y.n) where
  irrefl x := by rw [sI_lt]; exact ltB_irreflZ _
  trans x y z h1 h2 := by rw [sI_lt] at *; exact ltB_transZ h1 h2
  ntrans x y z h1 h2 := by
    rw [sI_lt] at *
    cases h : ltBZ x.n z.n with
    | false => rfl
    | true =>
      exfalso
      by_cases e : x.n = y.n
      · rw [e, h2] at h; cases h
      · have h3 := ltB_totalZ e h1
        have h4 := ltB_transZ h3 h
        rw [h4] at h2; cases h2
set_option maxHeartbeats 2000000 in
theorem sI_sort (L : List Itm) (v : Value) (base : Nat) (w : World) (ho : OwnI base w v L) (hl : L.length ≤ 100000) :
    Calls Tryz.prog 70 #[v, .func (.func 71) #[] #[]] w fun e w' => e = .returned (.tuple #[]) ∧ ∃ L', L'.Perm L ∧ L'.Pairwise (fun x y => ltBZ y.n x.n = false) ∧ OwnI base w' v L' ∧ w.grownBy w' v.ownBlock := by
  have ho2 := ho
  rcases ho.2 with ⟨rfl, h0⟩ | ⟨g, cap, cur, rfl, hb, hg, h1, h2, h3, h4⟩
  · have hc := AnyF.slices_SortFunc_none laysSI none 0 (.func (.func 71) #[] #[]) w
    change Calls Tryz.prog 70 _ _ _ at hc
    refine hc.mono ?_
    rintro e w' ⟨rfl, rfl⟩
    have hL := List.length_eq_zero_iff.1 h0
    subst hL
    exact ⟨rfl, [], List.Perm.refl _, List.Pairwise.nil, ho2, World.grownBy.refl w' _⟩
  · have eg : ∀ args w, (callFunc 71 args).run Tryz.prog w = .ok (.enter 71 args) w := enters_of Tryz.func71 (by kernel_rfl) rfl
    have hH : HoldsK icl 2 w g 0 L.toArray := own_holds (enc := icl) (k := 2) (fun _ => rfl) (by omega) (n := L.length) (base := base) (T := 68) (cap := cap) ho2 (by simp)
    have hcon := AnyQ.slices_SortFunc laysSI 2 Tryz.isAgg68 Tryz.sizeOf68 icl (fun _ => rfl) (fun x v hv => icl_one x v hv) (fun x y : Itm => cmpT x.n y.n) sI_swo 71 #[] g 0 cap L.toArray w eg (sI_lays g 0 L.toArray.size w) hH (lt_of_block hg) (by simp; omega)
    change Calls Tryz.prog 70 _ _ _ at hcon
    rw [List.size_toArray] at hcon
    refine hcon.mono ?_
    rintro e w' ⟨rfl, d', n, os, hp, hs, rfl⟩
    have hsz : d'.size = L.length := by have := hp.1; simpa using this
    obtain ⟨o1, o2⟩ := own_sorted (enc := icl) (k := 2) (fun _ => rfl) (by omega : 0 < 2) (d := L.toArray) (d' := d') (m := n) (os := os) (n := L.length) (base := base) (T := 68) (cap := cap) ho2 (by simp) (by simpa using hsz)
    refine ⟨rfl, d'.toList, ?_, ?_, ?_, o2⟩
    · have := hp.2.2
      have e : List.take L.length d'.toList = d'.toList := List.take_of_length_le (by simp [hsz])
      simp [hsz, e] at this
      exact this
    · rw [List.pairwise_iff_getElem]
      intro i j hi hj hij
      have := hs i j (Nat.zero_le _) hij (by simpa [hsz] using hj)
      rw [sI_lt, getElem!_pos d' j (by simpa using hj), getElem!_pos d' i (by simpa using hi)] at this
      simpa using this
    · have e2 : d'.toList.length = L.length := by simp [hsz]
      unfold OwnI
      rw [e2]
      exact o1
instance : Inhabited Chg := ⟨⟨⟨#[]⟩, ⟨#[]⟩, false⟩⟩
set_option maxHeartbeats 2000000 in
theorem sH_closure (x y : Chg) (W : World) : Calls Tryz.prog 45 #[.agg #[.string x.n, .string x.val, .bool x.gone], .agg #[.string y.n, .string y.val, .bool y.gone]] W fun e w' => e = .returned (.int .i64 (cmpT x.n y.n)) ∧ ∃ q os', w' = grow (W.drewN q) os' := by
  have hcon := fun W' => cmpS_any x.n y.n W'
  generalize cmpT x.n y.n = r at hcon ⊢
  go_enter Tryz.func45, Tryz.ntmps45
  go_wp2_with (go_at_call 46; refine (hcon _).mono ?_; rintro e w' ⟨rfl, rfl⟩)
  go_ret
  exact ⟨rfl, 0, _, by rw [alloc_eq_grow, alloc_eq_grow, grow_grow]; rfl⟩
theorem sH_lays (blk off size : Nat) (w : World) : CmpLays Tryz.prog 45 #[] hcl 3 (fun x y : Chg => cmpT x.n y.n) blk off size w :=
  fun _ _ _ _ x y => sH_closure x y _
theorem sH_lt (x y : Chg) : ltOf (fun x y : Chg => cmpT x.n y.n) x y = ltBZ x.n y.n := by
  unfold ltOf cmpT
  cases h1 : ltBZ x.n y.n with
  | true => simp [h1]
  | false => cases h2 : ltBZ y.n x.n <;> simp [h1, h2]
theorem sH_swo : SWO (ltOf fun x y : Chg => cmpT x.n y.n) where
  irrefl x := by rw [sH_lt]; exact ltB_irreflZ _
  trans x y z h1 h2 := by rw [sH_lt] at *; exact ltB_transZ h1 h2
  ntrans x y z h1 h2 := by
    rw [sH_lt] at *
    cases h : ltBZ x.n z.n with
    | false => rfl
    | true =>
      exfalso
      by_cases e : x.n = y.n
      · rw [e, h2] at h; cases h
      · have h3 := ltB_totalZ e h1
        have h4 := ltB_transZ h3 h
        rw [h4] at h2; cases h2
set_option maxHeartbeats 2000000 in
theorem sH_sort (L : List Chg) (v : Value) (base : Nat) (w : World) (ho : OwnH base w v L) (hl : L.length ≤ 100000) :
    Calls Tryz.prog 44 #[v, .func (.func 45) #[] #[]] w fun e w' => e = .returned (.tuple #[]) ∧ ∃ L', L'.Perm L ∧ L'.Pairwise (fun x y => ltBZ y.n x.n = false) ∧ OwnH base w' v L' ∧ w.grownBy w' v.ownBlock := by
  have ho2 := ho
  rcases ho.2 with ⟨rfl, h0⟩ | ⟨g, cap, cur, rfl, hb, hg, h1, h2, h3, h4⟩
  · have hc := AnyF.slices_SortFunc_none laysSH none 0 (.func (.func 45) #[] #[]) w
    change Calls Tryz.prog 44 _ _ _ at hc
    refine hc.mono ?_
    rintro e w' ⟨rfl, rfl⟩
    have hL := List.length_eq_zero_iff.1 h0
    subst hL
    exact ⟨rfl, [], List.Perm.refl _, List.Pairwise.nil, ho2, World.grownBy.refl w' _⟩
  · have eg : ∀ args w, (callFunc 45 args).run Tryz.prog w = .ok (.enter 45 args) w := enters_of Tryz.func45 (by kernel_rfl) rfl
    have hH : HoldsK hcl 3 w g 0 L.toArray := own_holds (enc := hcl) (k := 3) (fun _ => rfl) (by omega) (n := L.length) (base := base) (T := 72) (cap := cap) ho2 (by simp)
    have hcon := AnyQ.slices_SortFunc laysSH 3 Tryz.isAgg72 Tryz.sizeOf72 hcl (fun _ => rfl) (fun x v hv => hcl_one x v hv) (fun x y : Chg => cmpT x.n y.n) sH_swo 45 #[] g 0 cap L.toArray w eg (sH_lays g 0 L.toArray.size w) hH (lt_of_block hg) (by simp; omega)
    change Calls Tryz.prog 44 _ _ _ at hcon
    rw [List.size_toArray] at hcon
    refine hcon.mono ?_
    rintro e w' ⟨rfl, d', n, os, hp, hs, rfl⟩
    have hsz : d'.size = L.length := by have := hp.1; simpa using this
    obtain ⟨o1, o2⟩ := own_sorted (enc := hcl) (k := 3) (fun _ => rfl) (by omega : 0 < 3) (d := L.toArray) (d' := d') (m := n) (os := os) (n := L.length) (base := base) (T := 72) (cap := cap) ho2 (by simp) (by simpa using hsz)
    refine ⟨rfl, d'.toList, ?_, ?_, ?_, o2⟩
    · have := hp.2.2
      have e : List.take L.length d'.toList = d'.toList := List.take_of_length_le (by simp [hsz])
      simp [hsz, e] at this
      exact this
    · rw [List.pairwise_iff_getElem]
      intro i j hi hj hij
      have := hs i j (Nat.zero_le _) hij (by simpa [hsz] using hj)
      rw [sH_lt, getElem!_pos d' j (by simpa using hj), getElem!_pos d' i (by simpa using hi)] at this
      simpa using this
    · have e2 : d'.toList.length = L.length := by simp [hsz]
      unfold OwnH
      rw [e2]
      exact o1
set_option maxHeartbeats 1000000 in
theorem sortItems_any (L : List Itm) (v : Value) (base : Nat) (w : World) (ho : OwnI base w v L) (hl : L.length ≤ 100000) :
    Calls Tryz.prog 34 #[v] w fun e w' => e = .returned (.tuple #[]) ∧ ∃ L', L'.Perm L ∧ L'.Pairwise (fun x y => ltBZ y.n x.n = false) ∧ OwnI base w' v L' ∧ w.grownBy w' v.ownBlock := by
  have C := Lib.hid (sI_sort L v base w ho hl)
  clear ho
  go_enter Tryz.func34, Tryz.ntmps34
  go_wp2_with fail
  refine (C.out).mono ?_
  rintro e w' ⟨rfl, L', a, b, c, d⟩
  go_wp2_with fail
  go_end0
  exact ⟨rfl, L', a, b, c, d⟩
end Go.Proofs.YtbilnomafloopaaGreat

namespace Go.Proofs.YtbilnomafloopaaGreat
set_option maxRecDepth 100000
open Go.ChangeShapes Go.WideShapes Go.ChangeAt Go.RowKit
open Go.ChangeMaps (setBlock)
set_option linter.unusedVariables false
set_option linter.unusedSimpArgs false
theorem OwnI.kp {base r : Nat} {w w' : World} {v : Value} {l : List Itm} (h : OwnI base w v l) (g : Kp r w w') (hn : r < base) : OwnI base w' v l := by
  refine World.ownsRow.kept h g ?_
  cases e : v.ownBlock with
  | none => exact .inl rfl
  | some k => refine .inr fun e2 => ?_; injection e2 with e2; have := (World.ownsRow.lt h k e).1; omega
theorem MapI.grown {p n : Nat} {L : List Itm} {w w' : World} {row : Option Nat} (h : MapI p n L w) (g : w.grownBy w' row) (hn : some p ≠ row) : MapI p n L w' := by
  obtain ⟨es, c, hb, hm⟩ := h; exact ⟨es, c, (g.block p (lt_of_block hb) hn).trans hb, hm⟩
theorem withI_ok {l : List Itm} {c : List Chg} (hs : ∀ x ∈ l, okIZ x) (hk : ∀ x ∈ c, okH x) (i : Nat) : ∀ x ∈ (c.take i).foldl stepC (ofI l), okIZ x :=
  foldC_all (p := fun n v => n.size ≤ maxLen ∧ v.size ≤ maxLen) (fun x hx => hs x (ofI_sub hx)) (fun x hx => by have := hk x (List.mem_of_mem_take hx); exact ⟨this.1, this.2.1⟩)
set_option maxHeartbeats 16000000 in
theorem with_anyZ (l : List Itm) (c : List Chg) (lv cv : Value) (w : World) (hl : l.length ≤ 40000) (hc : c.length ≤ 60000) (hs : ∀ x ∈ l, okIZ x) (ht : Itms w w.heap.size lv l) (hk : Chgs w w.heap.size cv c) :
    Calls Tryz.prog 22 #[lv, cv] w fun e w' => ∃ v', e = .returned v' ∧ OwnI w.heap.size w' v' (withI l c) ∧ Q w w' := by
  have G := Lib.hid (gathered_any l lv w (by omega) ht)
  obtain ⟨B, c2, rfl, -, -, hok2, hcells2⟩ := hk
  have HD := Lib.hid hcells2
  have HK := Lib.hid hok2
  have HOK := Lib.hid (withI_ok hs hok2)
  have HAS := Lib.hid (fun i => foldC_asc (c.take i) (ofI_asc l))
  clear hcells2 hok2 hs ht
  go_enter Tryz.func22, Tryz.ntmps22
  go_wp2_with fail
  refine (G.out).mono ?_
  rintro e w1 ⟨p, rfl, hp, m1, q1⟩
  clear G
  have m1' : MapI p (l.length + 0) ((c.take 0).foldl stepC (ofI l)) w1 := m1
  clear m1
  go_wp2_with fail
  go_loopw [15] (fun I wr => ∃ i : Nat, i ≤ c.length ∧ I = .int .i64 i ∧ MapI p (l.length + i) ((c.take i).foldl stepC (ofI l)) wr ∧ Q w wr) (fun I _ => c.length - (intOf I).toNat)
  case atStart => exact ⟨0, Nat.zero_le _, rfl, m1', q1⟩
  case round =>
    obtain ⟨i, hil, rfl, hm, hbel⟩ := hrel
    clear m1' q1
    by_cases hlt : i < c.length
    · obtain ⟨a, hAa, ha, hat⟩ := HD.out i hlt
      subst hAa
      obtain ⟨c0, c1, c2⟩ := hat.keep (by rw [add_block]; exact ha) fun p hp => hbel.cell hp
      have hy0 := HK.out _ (List.getElem_mem hlt)
      have HW := withI_take l c i hlt
      obtain ⟨y, hy⟩ : ∃ y, y = c[i] := ⟨_, rfl⟩
      rw [← hy] at c0 c1 c2 hy0 HW
      clear hy hat
      have hilt : (i : Int) < (c.length : Int) := by omega
      have hm2 := hm.on ((Q.refl wr).alloc (.cells #[.string y.n, .string y.val, .bool y.gone] 72))
      have qb := hbel.trans ((Q.refl wr).alloc (.cells #[.string y.n, .string y.val, .bool y.gone] 72))
      have hsz : ∀ x ∈ (c.take i).foldl stepC (ofI l), x.n.size ≤ maxLen := fun x hx => (HOK.out i x hx).1
      cases hg : y.gone with
      | true =>
        rw [stepC_gone (HAS.out i) hg] at HW
        rw [hg] at hm2 qb c2
        obtain ⟨w5, hrun, m5, g5, -⟩ := hm2.del hsz hy0.1 0
        have q5 := g5.q qb hp
        rw [← HW] at m5
        have RUN := Lib.hid hrun
        clear hrun hm hm2 g5 hy0 qb HW hsz hg
        go_wp2_with (at_delete; refine wpList_run_del RUN.out rfl _ _ rfl rfl rfl ?_)
        go_roundw
        case rel => exact ⟨i + 1, by omega, by go_num, m5.more (by omega), q5⟩
        case measure => simp [intOf]; omega
      | false =>
        have HW2 : (c.take (i + 1)).foldl stepC (ofI l) = inG Itm.n ((c.take i).foldl stepC (ofI l)) ⟨y.n, y.val⟩ := by rw [HW, stepC, if_neg (by rw [hg]; decide)]
        rw [hg] at hm2 qb c2
        obtain ⟨w5, hrun, m5, g5, -⟩ := hm2.put hsz (x := ⟨y.n, y.val⟩) hy0.1
        have q5 := g5.q qb hp
        rw [← HW2] at m5
        rw [itm] at hrun
        have RUN := Lib.hid hrun
        clear hrun hm hm2 g5 hy0 qb HW HW2 hsz hg
        go_wp2_with (at_mapUpdate; refine wpList_run_put RUN.out rfl _ _ _ rfl rfl rfl rfl ?_)
        go_roundw
        case rel => exact ⟨i + 1, by omega, by go_num, m5.more (by omega), q5⟩
        case measure => simp [intOf]; omega
    · have h2 : ¬ (i : Int) < (c.length : Int) := by omega
      obtain ⟨wo, hwo⟩ : ∃ x, x = wr := ⟨_, rfl⟩
      subst hwo
      rw [List.take_of_length_le (by omega)] at hm
      have HL : Hid (∀ x ∈ withI l c, okIZ x) := Lib.hid (by have := HOK.out c.length; rw [List.take_of_length_le (Nat.le_refl _)] at this; exact this)
      have HA := Lib.hid (withI_asc l c)
      have hm : MapI p (l.length + i) (withI l c) wo := hm
      obtain ⟨L, hL⟩ : ∃ L, L = withI l c := ⟨_, rfl⟩
      rw [← hL] at hm HL HA
      have HLE := Lib.hid hL
      clear hL HOK HAS HK
      obtain ⟨es, clock, hmb, hmi, hes⟩ := hm
      have HMI := Lib.hid hmi
      have hes2 : es.size ≤ 100000 := by omega
      clear hmi hes
      go_wp2_with (refine wpList_range_w _ rfl _ rfl _ _ _ rfl hmb ?_)
      have hpi : p < wo.heap.size := lt_of_block hmb
      have it0 : (wo.alloc (.mapIter (some p) clock #[] clock)).heap[wo.heap.size]? = some (.mapIter (some p) clock #[] clock) := heap_new _ _
      have qa := hbel.trans ((Q.refl wo).alloc (.mapIter (some p) clock #[] clock))
      have mb0 := (((Q.refl wo).alloc (.mapIter (some p) clock #[] clock)).block p hpi).trans hmb
      have sz0 : (wo.alloc (.mapIter (some p) clock #[] clock)).heap.size = wo.heap.size + 1 := World.size_alloc ..
      obtain ⟨pi, hpi2⟩ : ∃ z, z = wo.heap.size := ⟨_, rfl⟩
      obtain ⟨y1, hy1⟩ : ∃ z, z = wo.alloc (.mapIter (some p) clock #[] clock) := ⟨_, rfl⟩
      rw [← hy1, ← hpi2] at it0
      rw [← hy1] at qa mb0
      rw [← hy1, ← hpi2] at sz0
      rw [← hy1, ← hpi2]
      rw [← hpi2] at hpi
      have hwpi : w.heap.size ≤ pi := by rw [hpi2]; exact hbel.size
      clear hy1 hpi2 hmb hbel
      have HIT := Lib.hid it0
      have HMB := Lib.hid mb0
      have HQA := Lib.hid qa
      have HSZ := Lib.hid sz0
      clear it0 mb0 qa sz0
      go_wp2_with fail
      go_loopw [8] (fun O wr => ∃ (seen : Array Nat) (c0 : Nat) (acc : List Itm), wr.heap[pi]? = some (.mapIter (some p) clock seen c0) ∧ clock ≤ c0 ∧ wr.heap[p]? = some (.map es clock) ∧ OwnI (pi + 1) wr O acc ∧ ColI es seen acc ∧ Q w wr ∧ pi < wr.heap.size) (fun _ wr => leftW wr pi es)
      case atStart => exact ⟨#[], clock, [], HIT.out, Nat.le_refl _, HMB.out, OwnI.nil _ _, ColI.nil _, HQA.out, by have := HSZ.out; omega⟩
      case round =>
        obtain ⟨seen, c0, acc, hit, hc0, hmr, hown, hcol, q, hlt2⟩ := hrel
        clear HIT HMB HQA HSZ
        have hold : ∀ e ∈ es.toList, e.born < clock := fun e he => (HMI.out.1 e he).1
        have HCOL := Lib.hid hcol
        clear hcol
        by_cases hleft : (leftOf es seen).size = 0
        · have HALL := Lib.hid (HCOL.out.all HMI.out hleft)
          have hal : acc.length ≤ 100000 := by have := HCOL.out.1; omega
          have C := Lib.hid (fun (x : World) (h : OwnI (pi + 1) x u8 acc) => sortItems_any acc u8 (pi + 1) x h (by omega))
          go_wp2_with (first | (refine wpList_next_w _ rfl _ rfl _ _ _ _ _ _ _ rfl hit hmr hold hc0 (fun _ => ?_) (fun e he => (leftW_empty hleft he).elim)) | (go_at_call 34; refine (C.out _ hown).mono ?_; rintro e w6 ⟨rfl, L', hp6, hs6, o6, g6⟩))
          go_ret
          have hfin : L' = L := sorted_is hp6 hs6 HCOL.out.2.2.2 HA.out HALL.out
          subst hfin
          exact ⟨_, rfl, by rw [← HLE.out]; exact OwnI.low o6 (by omega), Below.grown q g6 q.size (fun k hk => by have := (World.ownsRow.lt hown k hk).1; omega)⟩
        · go_upto_region 13 with (first
            | (refine wpList_next_w _ rfl _ rfl _ _ _ _ _ _ _ rfl hit hmr hold hc0 (fun h => absurd h hleft) ?_; intro en hen w5 hw5; have hmem := (mem_left hen).1; obtain ⟨-, x', hxm, hk', hv'⟩ := HMI.out.1 en hmem; have k5 := map_kp w5 pi (.mapIter (some p) clock (seen.push en.born) clock); have hit5 := iterW_set (iterW_at hit hw5) (o' := .mapIter (some p) clock (seen.push en.born) clock); have q50 := iterW_q q hw5; have lt5 : pi < w5.heap.size := lt_of_block (iterW_at hit hw5); have mr5 := iterW_at hmr hw5; have o50 : OwnI (pi + 1) w5 u8 acc := by (rcases hw5 with rfl | rfl; exact hown; exact OwnI.on hown (Q.refl _).drew))
            | (refine wpList_entry_w _ rfl _ rfl _ _ _ _ _ _ en rfl hit5 (((k5.block p (lt_of_block mr5) (by simp; omega))).trans mr5) hmem HMI.out.2.1 ?_; rw [hk', hv', itm]))
          have hmr6 := (k5.block p (lt_of_block mr5) (by simp; omega)).trans mr5
          have q6 := k5.q q50 hwpi
          have o6 := o50.kp k5 (Nat.lt_succ_self _)
          have lt6 : pi < (setBlock w5 pi (.mapIter (some p) clock (seen.push en.born) clock)).heap.size := Nat.lt_of_lt_of_le lt5 k5.size
          have HC2 := Lib.hid (HCOL.out.step HMI.out hen hk' hv')
          have HMS : Hid ((leftOf es (seen.push en.born)).size < (leftOf es seen).size) := Lib.hid (left_shrinks _ _ _ hen)
          obtain ⟨ws, hws⟩ : ∃ z, z = setBlock w5 pi (.mapIter (some p) clock (seen.push en.born) clock) := ⟨_, rfl⟩
          rw [← hws] at hit5 hmr6 q6 o6 lt6 ⊢
          have hal : acc.length ≤ 100000 := by have := HCOL.out.1; omega
          clear hws hw5 k5 q50 lt5 mr5 o50 hmr hown q hlt2 hen hmem hxm hleft
          have hitH := Lib.hid hit5
          clear hit5
          go_wp2_with (at_builtin; refine wpList_snoc_itm _ rfl _ _ 26 68 Tryz.underlying26 rfl (pi + 1) (ws.heap.size + 1) _ acc x' rfl rfl (cells_itm2 ws _ x' 68) (World.ownsRow.alloc (World.ownsRow.alloc o6 _) _) ?hb ?hl ?_; (case hb => simp; omega); (case hl => omega); intro v8 w8 o8 g8)
          have q8 : Q w w8 := Below.grown ((q6.alloc _).alloc _) g8 (by have := q6.size; simp; omega) (fun k hk => by have := (World.ownsRow.lt o6 k hk).1; omega)
          have e8 : ∀ k, k < pi + 1 → w8.heap[k]? = ws.heap[k]? := fun k hk => (g8.block k (by simp; omega) (fun e => by have := (World.ownsRow.lt o6 k e.symm).1; omega)).trans (Below.block (((Q.refl ws).alloc _).alloc _) k (by omega))
          have it8 := (e8 pi (Nat.lt_succ_self _)).trans hitH.out
          have mr8 := (e8 p (by omega)).trans hmr6
          go_roundw
          case rel => exact ⟨_, _, _, it8, Nat.le_refl _, mr8, o8, HC2.out, q8, lt_of_block it8⟩
          case measure => simp only [leftW, it8, hit]; exact HMS.out
end Go.Proofs.YtbilnomafloopaaGreat

