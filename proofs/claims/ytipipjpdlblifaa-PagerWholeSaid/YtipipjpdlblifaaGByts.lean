/-
  A slice of octets that is read; pages, one behind the other, as calls tell them.
-/
import Derived.Test.YtipipjpdlblifaaGSizes
import Derived.Test.YtipipjpdlblifaaGWhole
import Derived.Deep.DeepCutAuto
import Derived.IntWalk
namespace Go.Proofs.Ytipipjpdlblifaa
open Go.ChangeShapes Go.WideShapes Go.ChangeAt Go.RowKit
set_option linter.unusedVariables false
set_option linter.unusedSimpArgs false

/-- A slice whose elements are these octets; all of it lies below block B. -/
def Byts (w : World) (B : Nat) (v : Value) (l : List Nat) : Prop :=
  ∃ A c, v = .slice A l.length c ∧ l.length ≤ c ∧ ∀ k (h : k < l.length), ∃ a : Addr, A = some a ∧ a.block < B ∧ l[k] < 256 ∧ w.cell? (a.add k) = some (.int .u8 (l[k] : Nat))
theorem Byts.nil (w : World) (B : Nat) : Byts w B (.slice none 0 0) [] := ⟨none, 0, rfl, Nat.le_refl _, fun k h => absurd h (by simp)⟩
theorem Byts.on {w w' : World} {v : Value} {l : List Nat} (h : Byts w w.heap.size v l) (k : Q w w') : Byts w' w'.heap.size v l := by
  obtain ⟨A, c, e, e0, f⟩ := h
  refine ⟨A, c, e, e0, fun i hi => ?_⟩
  obtain ⟨a, e1, e2, e3, e4⟩ := f i hi
  have := k.size
  exact ⟨a, e1, by omega, e3, (k.cell (by rw [add_block]; exact e2)).trans e4⟩
theorem cells_u8 : Try.prog.cellsOf 5 = 1 := by kernel_rfl
theorem wf8 {a : Int} (h : (Lit.int .u8 a).wf = true) : ∃ n : Nat, a = n ∧ n < 256 := by
  have h2 : 0 ≤ a ∧ a ≤ 255 := by simpa [Lit.wf, IntKind.min, IntKind.max, IntKind.signed, IntKind.bits] using h
  exact ⟨a.toNat, by omega, by omega⟩
theorem open_byts {H : Type} {enc : TypeId × Value → H} {W : World} {b : Nat} {v : Value} {d : DataW H} {p : List MemPlace} (hv : Value.okWide Try.prog W .any b 47 v)
    (h : DataW.Trod enc Try.prog W 0 (fun _ => true) true 47 v d p) : ∃ l : List Nat, Byts W W.heap.size v l ∧ l.length ≤ maxLen := by
  obtain ⟨a0, len, cap, rfl⟩ := okWide_slice Try.underlying47 hv
  obtain ⟨fuel, hf⟩ := h
  rcases open_ints Try.underlying47 Try.underlying5 cells_u8 hf with ⟨hcs, hx⟩ | ⟨a, len', cap', zs, hcs, _, hl, hm, hz, hx, hcell, hws⟩
  · simp [Value.cells] at hcs
    obtain ⟨rfl, rfl, rfl⟩ := hcs
    exact ⟨[], Byts.nil _ _, by simp⟩
  · simp [Value.cells] at hcs
    obtain ⟨rfl, rfl, rfl⟩ := hcs
    simp only [if_true] at hz
    have hlen : ((zs.take len).map Int.toNat).length = len := by rw [List.length_map, List.length_take]; omega
    refine ⟨(zs.take len).map Int.toNat, ⟨some a, cap, by rw [hlen], by rw [hlen]; exact hl, fun k hk => ⟨a, rfl, ?_, ?_, ?_⟩⟩, by rw [hlen]; omega⟩
    · have := World.block_lt_of_cell? W _ (hcell k (by omega))
      rw [add_block] at this; exact this
    · obtain ⟨n, e1, e2⟩ := wf8 (hws _ (List.getElem_mem (n := k) (by omega)))
      rw [List.getElem_map, List.getElem_take, e1]; exact e2
    · obtain ⟨n, e1, e2⟩ := wf8 (hws _ (List.getElem_mem (n := k) (by omega)))
      rw [hcell k (by omega), List.getElem_map, List.getElem_take]
      have : k < zs.length := by omega
      rw [List.getD_eq_getElem?_getD, List.getElem?_eq_getElem this, Option.getD_some, e1]
      rfl

/-- The text that a page behind the first n things is asked with. -/
def afN (k d : ByteArray) (L : List Ent) (n : Nat) : ByteArray := lastT ((thgs k d L).take n)
theorem afN_zero (k d : ByteArray) (L : List Ent) : afN k d L 0 = ⟨#[]⟩ := rfl
/-- What a round of PagerWhole knows of its page. -/
structure PgN (N : List ByteArray) (AF : Nat → ByteArray) (n most k : Nat) (P : Pg) : Prop where
  sum : P.keys.length + P.grps.length = k
  le : n + k ≤ N.length
  more : P.more = decide (n + k < N.length)
  full : P.more = true → k = most
  has : ∀ j, j < k → ∃ h : n + j < N.length, N[n + j] ∈ P.keys ++ P.grps
  last : 0 < k → P.last = AF (n + k) ∧ ∃ h : n + k - 1 < N.length, P.last = N[n + k - 1]
  szk : ∀ s ∈ P.keys, s.size ≤ 1000
  szg : ∀ s ∈ P.grps, s.size ≤ 1000
  lkey : 0 < k → hasO 1 60 ko P.last = true
theorem whole_page {L : List Ent} {k d : ByteArray} {N : List ByteArray} (hN : N = (thgs k d L).map (·.1)) (hI : okI L) (hs : Small L) (hk : hasO 0 60 ko k = true) (hd : hasO 0 1 ko d = true) {n : Nat} (hn : n ≤ N.length) {most : Nat} (h1 : 1 ≤ most) (h2 : most ≤ 1000) :
    ∃ P q, PgN N (afN k d L) n most q P ∧ Hid (∀ b v, Ents b b.heap.size v L → Calls Try.prog 11 #[v, .string k, .string d, .string (afN k d L n), .int .i64 (most : Nat)] b (KeysR b P 0)) := by
  have hkl : ∀ e ∈ L, hasO 1 60 ko e.key = true := fun e he => ((okI_iff.1 hI).2.2 e he).1
  have F := thF_all (okI_iff.1 hI).2.1 hkl hk hd
  have TK : ∀ x ∈ thgs k d L, hasO 1 60 ko x.1 = true := fun x hx => by obtain ⟨e, he, -, K⟩ := F.what hkl hk hd hx; exact K.key
  have NK : ∀ s ∈ N, hasO 1 60 ko s = true := by
    intro s hx; rw [hN] at hx
    obtain ⟨x, hx2, rfl⟩ := List.mem_map.1 hx
    exact TK x hx2
  have hnT : n ≤ (thgs k d L).length := by rw [hN, List.length_map] at hn; exact hn
  have hp : ∀ x ∈ thgs k d L, 0 < x.1.size := fun x hx => (hasO_size (TK x hx)).1
  have fa := page_next hN F.rise hp hnT h1 (P := pageO (thgs k d L) (afN k d L n) most) rfl rfl
  obtain ⟨f1, f2, f3, f4, f5⟩ := fa
  have aS : (n = 0 ∧ afN k d L n = ⟨#[]⟩) ∨ hasO 1 60 ko (afN k d L n) = true := by
    cases n with
    | zero => exact .inl ⟨rfl, rfl⟩
    | succ n =>
      right
      rw [afN, lastT_take (by omega)]
      exact TK _ (List.getElem_mem _)
  have hpg : pgO (afN k d L n) (most : Nat) = true := by
    rcases aS with ⟨-, e⟩ | e
    · rw [e, pgO_small _ (by omega) (by omega)]; decide +kernel
    · rw [pgO_small _ (by omega) (by omega)]; unfold pgO; simp [e]
  have hsz : (afN k d L n).size ≤ 1000 := by
    rcases aS with ⟨-, e⟩ | e
    · rw [e]; decide
    · have := (hasO_size e).2; omega
  have sub : ∀ x ∈ (bhd (afN k d L n) (thgs k d L)).take most, x ∈ thgs k d L := fun x hx => (List.mem_filter.1 (List.mem_of_mem_take hx)).1
  have sK : ∀ s ∈ keysOf ((bhd (afN k d L n) (thgs k d L)).take most), s.size ≤ 1000 := by
    intro s hx
    obtain ⟨x, hx2, rfl⟩ := List.mem_map.1 hx
    have := (hasO_size (TK x (sub x (List.mem_filter.1 hx2).1))).2; omega
  have sG : ∀ s ∈ grpsOf ((bhd (afN k d L n) (thgs k d L)).take most), s.size ≤ 1000 := by
    intro s hx
    obtain ⟨x, hx2, rfl⟩ := List.mem_map.1 hx
    have := (hasO_size (TK x (sub x (List.mem_filter.1 hx2).1))).2; omega
  refine ⟨_, _, ⟨rfl, f1, f2, f3, fun j hj => ?_, f5, sK, sG, fun hq => ?_⟩, Lib.hid fun b v ht => keys_room L v k d (afN k d L n) most b hI hs hk hd hpg hsz ht⟩
  · obtain ⟨h, h2⟩ := f4 j hj
    exact ⟨h, List.mem_append.2 h2⟩
  · obtain ⟨-, h, e⟩ := f5 hq
    rw [e]; exact NK _ (List.getElem_mem h)
theorem things_size {L : List Ent} {k d : ByteArray} {N : List ByteArray} (hN : N = (thgs k d L).map (·.1)) (hI : okI L) (hk : hasO 0 60 ko k = true) (hd : hasO 0 1 ko d = true) : ∀ s ∈ N, s.size ≤ 1000 := by
  have hkl : ∀ e ∈ L, hasO 1 60 ko e.key = true := fun e he => ((okI_iff.1 hI).2.2 e he).1
  have F := thF_all (okI_iff.1 hI).2.1 hkl hk hd
  intro s hx
  rw [hN] at hx
  obtain ⟨x, hx2, rfl⟩ := List.mem_map.1 hx
  obtain ⟨e, he, -, K⟩ := F.what hkl hk hd hx2
  have := (hasO_size K.key).2; omega
/-- A cell of a slice of texts, in a later world. -/
theorem allcell (N : List ByteArray) (A : Option Addr) (c : Nat) (w : World) (h : Txts w w.heap.size (.slice A N.length c) N) (j : Nat) (hj : j < N.length) {w' : World} (q : Q w w') : ∃ a, A = some a ∧ w'.cell? (a.add j) = some (.string N[j]) := by
  obtain ⟨A', c', e, f⟩ := h
  injection e with e1 e2 e3
  obtain ⟨a, ea, hb, hc⟩ := f j hj
  exact ⟨a, e1.trans ea, (q.cell (by rw [add_block]; exact hb)).trans hc⟩
end Go.Proofs.Ytipipjpdlblifaa
