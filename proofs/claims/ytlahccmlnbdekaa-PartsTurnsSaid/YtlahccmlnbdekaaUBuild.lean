/-
  The octets of the parts that pieces name: a strings.Builder of the call's own, and octets over it.
-/
import Derived.Test.YtlahccmlnbdekaaURise
import Derived.Lib.Builder
import Derived.Lib.AppendStr
import Derived.Lib.UnsafeStr
import Derived.Laws.Externs
namespace Go.Proofs.Ytlahccmlnbdekaa
open Go.ChangeShapes Go.WideShapes Go.ChangeAt Go.RowKit
set_option linter.unusedVariables false
set_option linter.unusedSimpArgs false
set_option maxRecDepth 100000

theorem info_bld : (Try.prog.info? 102).map (·.size) = some 2 := by kernel_rfl
theorem lies_bld : liesAt Try.prog Try.prog.depth 102 (2 / Try.prog.cellsOf 102) 0 102 1 = true := by kernel_rfl
theorem info_oct : (Try.prog.info? 5).map (fun i => (i.zero, i.size, i.bytes)) = some (some (.int .u8 0), 1, 1) := by kernel_rfl
theorem cells_oct : Try.prog.cellsOf 5 = 1 := by kernel_rfl
/-- A builder in block b of one's own, that holds these octets. -/
def Bld (B b : Nat) (bs : List UInt8) (w : World) : Prop := Lib.IsBuilder 102 5 B b (Lib.byteCells bs) w
set_option maxHeartbeats 2000000 in
theorem bcheck_any (B b : Nat) (bs : List Value) (w : World) (h : Lib.IsBuilder 102 5 B b bs w) :
    Calls Try.prog 77 #[.pointer (some ⟨b, 0, none⟩)] w fun e w' => e = .returned (.tuple #[]) ∧ Lib.BuilderAt 102 5 B b (.pointer (some ⟨b, 0, none⟩)) bs w' ∧ Below B w w' := by
  obtain ⟨j, hj, hjs⟩ := Option.map_eq_some_iff.1 info_bld
  rcases h with h | h
  · have h0 := h.cell0
    have hsh := h.shape
    have hfz := h.frozen0
    have HE := Lib.hid (And.intro (h.used (.pointer (some ⟨b, 0, none⟩))) ((Below.refl B w).setCell (p := ⟨b, 0, none⟩) h.1 (.pointer (some ⟨b, 0, none⟩))))
    clear h
    go_enter Try.func77, Try.ntmps77
    go_wp2
    rw [Lib.run_to_unsafe w ⟨b, 0, none⟩ Try.underlying99 Try.underlying120 hj (by rw [hjs]; decide) hsh (Nat.zero_lt_succ 1)]
    simp only [Result.andThen]
    rw [Oper.upon_value]
    go_wp2
    rw [run_callFunc_extern Try.func79 (by kernel_rfl) (by kernel_rfl) (by kernel_rfl) (e := Extern.AbiNoEscape.same) (by kernel_rfl)]
    rw [Lib.run_noEscape]
    simp only [Result.andThen]
    rw [Oper.upon_value]
    go_wp2
    rw [Lib.run_from_unsafe w ⟨b, 0, none⟩ Try.underlying120 Try.underlying99 hj hsh lies_bld]
    simp only [Result.andThen]
    rw [Oper.upon_value]
    go_wp2
    go_end0
    exact ⟨rfl, HE.out⟩
  · have h0 := h.cell0
    have HE := Lib.hid h
    clear h
    go_enter Try.func77, Try.ntmps77
    go_wp2
    rw [Lib.run_neq_ptr_same w _ Try.underlying99 hj]
    go_wp2
    go_end0
    exact ⟨rfl, HE.out, Below.refl B _⟩
set_option maxHeartbeats 2000000 in
theorem bwrite_any (B b : Nat) (bs : List UInt8) (s : ByteArray) (w : World) (h : Bld B b bs w) (hl : bs.length + s.size ≤ 140737488355328) (hB : B ≤ w.heap.size) :
    Calls Try.prog 66 #[.pointer (some ⟨b, 0, none⟩), .string s] w fun e w' => e = .returned (.tuple #[.int .i64 s.size, .nilIface]) ∧ Bld B b (bs ++ bl s) w' ∧ Below B w w' := by
  obtain ⟨i0, hi, hz0, hz1, hz2⟩ := info_parts info_oct
  have C := Lib.hid (bcheck_any B b _ w h)
  have hlen := Lib.byteCells_length bs
  have HX : Hid (Lib.byteCells (bs ++ bl s) = Lib.byteCells bs ++ Lib.strCells s) := Lib.hid (by rw [Lib.byteCells_append, Lib.strCells_eq]; rfl)
  obtain ⟨cs, hcs⟩ : ∃ cs, cs = Lib.byteCells bs := ⟨_, rfl⟩
  rw [← hcs] at C hlen HX
  clear hcs h
  go_enter Try.func66, Try.ntmps66
  go_wp2_with fail
  refine (C.out).mono ?_
  rintro e w1 ⟨rfl, h1, hb1⟩
  obtain ⟨hBb, v, hbk, hown, hne⟩ := h1
  have c0 : w1.cell? ⟨b, 0, none⟩ = some (.pointer (some ⟨b, 0, none⟩)) := by rw [Lib.cell_of_heap hbk]; rfl
  have c1 : w1.cell? ⟨b, 1, none⟩ = some v := by rw [Lib.cell_of_heap hbk]; rfl
  go_wp2_with (at_builtin; refine Lib.wpList_append_own_string _ rfl _ _ 100 9 rfl B 5 i0 Try.underlying100 Try.underlying9 hi hz0 hz1 hz2 _ _ _ rfl hown s rfl ?c3 ?c4 ?c5 ?_)
  case c3 => unfold maxLen; omega
  case c4 => omega
  case c5 => have := hb1.size; omega
  intro v' w2 hown' hgrow _
  have hlt : b < w1.heap.size := by
    rcases Nat.lt_or_ge b w1.heap.size with h' | h'
    · exact h'
    · simp [Array.getElem?_eq_none h'] at hbk
  have hb2 : w2.heap[b]? = some (.cells #[.pointer (some ⟨b, 0, none⟩), v] 102 (0, 0)) := by
    rw [hgrow.block b hlt (fun e => hne e.symm)]
    exact hbk
  have d0 : w2.cell? ⟨b, 0, none⟩ = some (.pointer (some ⟨b, 0, none⟩)) := by rw [Lib.cell_of_heap hb2]; rfl
  have d1 : w2.cell? ⟨b, 1, none⟩ = some v := by rw [Lib.cell_of_heap hb2]; rfl
  have f1 : w2.frozen? ⟨b, 1, none⟩ = false := Lib.frozen_of_heap hb2 1
  obtain ⟨ao, n', cap, rfl⟩ : ∃ ao n' cap, v' = .slice ao n' cap := by
    rcases hown'.2 with ⟨hv, _⟩ | ⟨g, cap, cur, hv, _⟩
    · exact ⟨_, _, _, hv⟩
    · exact ⟨_, _, _, hv⟩
  go_wp2
  go_ret2
  refine ⟨rfl, ?_, ?_⟩
  · unfold Bld
    rw [HX.out]
    exact .inr (Lib.BuilderAt.put (T := 102) (e := 5) hBb hb2 (bs' := cs ++ Lib.strCells s) (by simpa [Lib.strCells_length, hlen] using hown') (by decide))
  · exact (hb1.grown hgrow (by have := hb1.size; omega) (fun k hk => (hown.lt k hk).1)).setCell (p := ⟨b, 1, none⟩) hBb _
set_option maxHeartbeats 2000000 in
theorem bstring_any (B b : Nat) (l : List UInt8) (w : World) (h : Bld B b l w) (hB : B ≤ w.heap.size) :
    Calls Try.prog 67 #[.pointer (some ⟨b, 0, none⟩)] w fun e w' => e = .returned (.string (mk l)) ∧ Below B w w' := by
  obtain ⟨p, hBb, v, hbk, hown, hne⟩ : ∃ p, Lib.BuilderAt 102 5 B b p (Lib.byteCells l) w := by
    rcases h with h | h
    · exact ⟨_, h⟩
    · exact ⟨_, h⟩
  have hlt : b < w.heap.size := by
    rcases Nat.lt_or_ge b w.heap.size with h' | h'
    · exact h'
    · simp [Array.getElem?_eq_none h'] at hbk
  have hUN : ∀ (W : World) (q : Option Addr), (Builtin.unsafeString_ #[118, 3] 9 #[.pointer q, .int .i64 0]).run Try.prog W = .ok (.string .empty) W := fun W q => Lib.run_unsafeString_none W _ _ _ q
  rw [Lib.byteCells_length] at hown
  rcases hown.2 with ⟨rfl, hz⟩ | ⟨g, cap, cur, rfl, hbg, hg, hnc, hcm, hcs, htake⟩
  · obtain rfl := List.length_eq_zero_iff.1 hz
    have c1 : w.drew.cell? ⟨b, 1, none⟩ = some (.slice none 0 0) := by
      have : w.drew.heap[b]? = some (.cells #[p, .slice none 0 0] 102 (0, 0)) := hbk
      rw [Lib.cell_of_heap this]; rfl
    have hSD : (Builtin.unsafeSliceData_ #[100] 118 #[.slice none 0 0]).run Try.prog w.drew = .ok (.pointer none) w.drew := rfl
    clear hown hbk hne
    go_enter Try.func67, Try.ntmps67
    go_wp2
    go_region
    all_goals (go_wp2; go_ret; exact ⟨rfl, Below.drew (Below.refl B w)⟩)
  · by_cases h0 : l = []
    · subst h0
      by_cases hc0 : cap = 0
      · subst hc0
        have c1 : w.drew.cell? ⟨b, 1, none⟩ = some (.slice (some ⟨g, 0, none⟩) 0 0) := by
          have : w.drew.heap[b]? = some (.cells #[p, .slice (some ⟨g, 0, none⟩) 0 0] 102 (0, 0)) := hbk
          rw [Lib.cell_of_heap this]; rfl
        have hSD : (Builtin.unsafeSliceData_ #[100] 118 #[.slice (some ⟨g, 0, none⟩) 0 0]).run Try.prog w.drew = .ok (.pointer (some ⟨w.drew.heap.size, 0, none⟩)) (w.drew.alloc (.view ⟨g, 0, none⟩ 5)) :=
          Lib.run_unsafeSliceData_zero w.drew _ _ 5 Try.underlying118 ⟨g, 0, none⟩ 0 (5, cur.size) (by have hg' : w.drew.heap[g]? = some (.cells cur 5 (0, 0)) := hg; simp [World.shape?, hg'])
        have c2 : (w.drew.alloc (.view ⟨g, 0, none⟩ 5)).cell? ⟨b, 1, none⟩ = some (.slice (some ⟨g, 0, none⟩) 0 0) := by
          have : (w.drew.alloc (.view ⟨g, 0, none⟩ 5)).heap[b]? = _ := (Lib.alloc_old w.drew _ b hlt).trans hbk
          rw [Lib.cell_of_heap this]; rfl
        have c3 : (w.alloc (.view ⟨g, 0, none⟩ 5)).drew.cell? ⟨b, 1, none⟩ = some (.slice (some ⟨g, 0, none⟩) 0 0) := c2
        have c4 : w.cell? ⟨b, 1, none⟩ = some (.slice (some ⟨g, 0, none⟩) 0 0) := c1
        clear hown hbk hne hnc hcm hcs htake hg
        go_enter Try.func67, Try.ntmps67
        go_wp2
        go_region
        all_goals (go_wp2; go_ret; exact ⟨rfl, (Below.drew (Below.refl B w)).alloc hB _⟩)
      · have c1 : w.drew.cell? ⟨b, 1, none⟩ = some (.slice (some ⟨g, 0, none⟩) 0 cap) := by
          have : w.drew.heap[b]? = some (.cells #[p, .slice (some ⟨g, 0, none⟩) 0 cap] 102 (0, 0)) := hbk
          rw [Lib.cell_of_heap this]; rfl
        have hSD : (Builtin.unsafeSliceData_ #[100] 118 #[.slice (some ⟨g, 0, none⟩) 0 cap]).run Try.prog w.drew = .ok (.pointer (some ⟨g, 0, none⟩)) w.drew := Lib.run_unsafeSliceData_row _ _ _ _ _ _ hc0
        clear hown hbk hne hnc hcm hcs htake hg hc0
        go_enter Try.func67, Try.ntmps67
        go_wp2
        go_region
        all_goals (go_wp2; go_ret; exact ⟨rfl, Below.drew (Below.refl B w)⟩)
    · have hl0 : l.length ≠ 0 := by simpa using h0
      have c1 : w.drew.cell? ⟨b, 1, none⟩ = some (.slice (some ⟨g, 0, none⟩) l.length cap) := by
        have : w.drew.heap[b]? = some (.cells #[p, .slice (some ⟨g, 0, none⟩) l.length cap] 102 (0, 0)) := hbk
        rw [Lib.cell_of_heap this]; rfl
      have hSD : (Builtin.unsafeSliceData_ #[100] 118 #[.slice (some ⟨g, 0, none⟩) l.length cap]).run Try.prog w.drew = .ok (.pointer (some ⟨g, 0, none⟩)) w.drew := Lib.run_unsafeSliceData_row _ _ _ _ _ _ (by omega)
      have hUS : (Builtin.unsafeString_ #[118, 3] 9 #[.pointer (some ⟨g, 0, none⟩), .int .i64 l.length]).run Try.prog w.drew = .ok (.string ⟨l.toArray⟩) (w.drew.freeze ⟨g, 0, none⟩ l.length) := by
        refine Lib.run_unsafeString_row w.drew 118 3 9 5 Try.underlying118 cells_oct g cur.size (by have hg' : w.drew.heap[g]? = some (.cells cur 5 (0, 0)) := hg; simp [World.shape?, hg']) l h0 (by omega) (by unfold maxLen at hcm; omega) ?_
        intro j x hx
        have := hown.cells (g := g) rfl j (.int .u8 x.toNat) (by simp [Lib.byteCells, hx])
        exact this
      clear hUN hown hbk hne hnc hcm hcs htake hg h0 hl0
      go_enter Try.func67, Try.ntmps67
      go_wp2
      go_region
      all_goals (go_wp2; go_ret; exact ⟨rfl, Lib.below_freeze (Below.drew (Below.refl B w)) (p := ⟨g, 0, none⟩) hbg _⟩)

/-- A builder stands where only new memory is made. -/
theorem Bld.on {B b : Nat} {l : List UInt8} {w w' : World} (h : Bld B b l w) (q : Q w w') : Bld B b l w' := by
  have k : ∀ p, Lib.BuilderAt 102 5 B b p (Lib.byteCells l) w → Lib.BuilderAt 102 5 B b p (Lib.byteCells l) w' := by
    rintro p ⟨hB, v, hbk, hown, hne⟩
    have hlt : b < w.heap.size := Lib.BuilderAt.lt ⟨hB, v, hbk, hown, hne⟩
    refine ⟨hB, v, (q.block b hlt).trans hbk, ?_, hne⟩
    rcases hown.2 with ⟨e, hz⟩ | ⟨g, cap, cur, e, hbg, hg, r⟩
    · exact ⟨hown.1, .inl ⟨e, hz⟩⟩
    · exact ⟨hown.1, .inr ⟨g, cap, cur, e, hbg, (q.block g (lt_of_block hg)).trans hg, r⟩⟩
  rcases h with h | h
  · exact .inl (k _ h)
  · exact .inr (k _ h)
/-- The octets of the parts that pieces name, one behind the other. -/
noncomputable def catB (L : List Prt) (l : List Pce) : List UInt8 := l.flatMap fun x => bl (partD L x.n)
theorem partD_size {L : List Prt} (h : ∀ p ∈ L, p.data.size ≤ 5000) (n : Int) : (partD L n).size ≤ 5000 := by
  obtain ⟨p, b, hp⟩ := partC_ex L n
  rw [partD_is hp]
  cases hp with
  | yes i hi _ _ => exact h _ (List.getElem_mem hi)
  | no _ => show (0 : Nat) ≤ 5000; omega
theorem catB_next {L : List Prt} {l : List Pce} {i : Nat} (h : i < l.length) : catB L (l.take (i + 1)) = catB L (l.take i) ++ bl (partD L l[i].n) := by
  rw [List.take_succ_eq_append_getElem h, catB, catB, List.flatMap_append]; simp
theorem catB_size {L : List Prt} (h : ∀ p ∈ L, p.data.size ≤ 5000) (l : List Pce) : (catB L l).length ≤ 5000 * l.length := by
  induction l with
  | nil => simp [catB]
  | cons y r ih =>
    have := partD_size h y.n
    simp only [catB, List.flatMap_cons, List.length_append, List.length_cons, bl_length] at ih ⊢; omega
set_option maxHeartbeats 4000000 in
theorem octs_any (L : List Prt) (v : Value) (l : List Pce) (u : Value) (w : World) (hl : L.length ≤ 1000) (hd : ∀ p ∈ L, p.data.size ≤ 5000) (hc : l.length ≤ 1000) (ht : Prts w w.heap.size v L) (hu : Pces w w.heap.size u l) :
    Calls Try.prog 51 #[v, u] w fun e w' => e = .returned (.string (mk (catB L l))) ∧ Q w w' := by
  have HT := Lib.hid ht
  have HU := Lib.hid hu
  obtain ⟨A, c, rfl⟩ := ht.form
  obtain ⟨A2, c2, rfl⟩ := hu.form
  obtain ⟨N, hn⟩ : ∃ N, L.length = N := ⟨_, rfl⟩
  obtain ⟨M, hm⟩ : ∃ M, l.length = M := ⟨_, rfl⟩
  have P : Hid (∀ n d, Q w d → ∃ b, Calls Try.prog 65 #[.slice A L.length c, .int .i64 n] d fun e w' => (∃ k, e = .returned (.tuple #[.agg #[.int .i64 k, .string (partD L n)], .bool b])) ∧ Q d w') := Lib.hid fun n d q => by
    obtain ⟨p, b, hp⟩ := partC_ex L n
    refine ⟨b, (part_any L _ n d p b hp hl (ht.on q)).mono ?_⟩
    rintro e w' ⟨rfl, q'⟩
    exact ⟨⟨p.n, by rw [partD_is hp]⟩, q'⟩
  have HD := Lib.hid hd
  rw [hn] at P ⊢
  rw [hm] at HU hc ⊢
  have HM := Lib.hid hm
  have I0 : Bld w.heap.size w.heap.size [] (w.alloc (.cells #[.pointer none, .slice none 0 0] 102)) := Lib.fresh_isBuilder _ _ w
  have q0 : Below w.heap.size w (w.alloc (.cells #[.pointer none, .slice none 0 0] 102)) := (Below.refl _ w).alloc (Nat.le_refl _) _
  clear ht hu hd hn hm hl HT
  go_enter Try.func51, Try.ntmps51
  go_wp2_with fail
  go_loopw [7, 8, 9, 13] (fun _ _ _ I wr => ∃ (i : Nat) (acc : List UInt8), i ≤ M ∧ I = .int .i64 i ∧ Bld w.heap.size w.heap.size acc wr ∧ Q w wr ∧ Hid (acc = catB L (l.take i))) (fun _ _ _ I _ => M - (intOf I).toNat)
  case atStart => exact ⟨0, [], Nat.zero_le _, rfl, I0, q0, Lib.hid (by simp [catB])⟩
  case round =>
    obtain ⟨i, acc, hil, rfl, bd, q, HC⟩ := hrel
    clear I0 q0
    by_cases hlt : i < M
    · have hltL : i < l.length := by have := HM.out; omega
      obtain ⟨a, c', hv, ha, -, hat⟩ := HU.out.pick i hltL
      injection hv with e1 e2 e3
      subst e1 e3
      obtain ⟨c0, c1⟩ := hat _ q
      have hilt : (i : Int) < (M : Int) := by omega
      have HX : Hid (acc ++ bl (partD L l[i].n) = catB L (l.take (i + 1))) := Lib.hid (by rw [HC.out, catB_next hltL])
      have hb1 : acc.length ≤ 5000000 := by
        have h1 := catB_size HD.out (l.take i)
        have h2 : (l.take i).length ≤ i := List.length_take_le ..
        rw [HC.out]; omega
      have hb2 := partD_size HD.out l[i].n
      obtain ⟨x, hx⟩ : ∃ x, x = l[i] := ⟨_, rfl⟩
      rw [← hx] at c0 c1 HX hb2
      clear hat hx e2
      obtain ⟨xn, xt⟩ := x
      simp only at c0 c1 HX hb2
      have q2 := q.alloc (.cells #[.int .i64 xn, .int .u32 (xt : Nat)] 65)
      have bd2 := bd.on ((Q.refl wr).alloc (.cells #[.int .i64 xn, .int .u32 (xt : Nat)] 65))
      obtain ⟨b, C⟩ := P.out xn _ q2
      obtain ⟨s, hs⟩ : ∃ s, s = partD L xn := ⟨_, rfl⟩
      rw [← hs] at C HX hb2
      have C := Lib.hid C
      clear hs
      go_wp2_with fail
      refine (C.out).mono ?_
      rintro e w3 ⟨⟨k, rfl⟩, q3⟩
      have q4 := q2.trans (q3.alloc (.cells #[.int .i64 k, .string s] 25))
      have bd4 := bd2.on (q3.alloc (.cells #[.int .i64 k, .string s] 25))
      have W := Lib.hid (bwrite_any _ _ _ s _ bd4 (by omega) q4.size)
      clear bd bd2
      go_wp2_with fail
      refine (W.out).mono ?_
      rintro e w5 ⟨rfl, bd5, q5⟩
      have q6 : Q w w5 := Below.trans q4 q5
      go_wp2_with fail
      go_roundw
      case rel => exact ⟨i + 1, _, by omega, by go_num, bd5, q6, HX⟩
      case measure => simp [intOf]; omega
    · have HV : Hid (acc = catB L l) := Lib.hid (by have := HC.out; rw [List.take_of_length_le (by have := HM.out; omega)] at this; exact this)
      have hilt : ¬ (i : Int) < (M : Int) := by omega
      have S := Lib.hid (bstring_any _ _ _ _ bd q.size)
      go_wp2_with fail
      refine (S.out).mono ?_
      rintro e w5 ⟨rfl, q5⟩
      go_wp2
      go_ret
      exact ⟨by rw [HV.out]; rfl, Below.trans q q5⟩
end Go.Proofs.Ytlahccmlnbdekaa
