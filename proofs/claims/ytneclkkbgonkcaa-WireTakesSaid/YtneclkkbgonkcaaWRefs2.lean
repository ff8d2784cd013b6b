/-
  Contracts of the document's TakeList and Same, and of the statements' Few, Texts, awake.
-/
import Derived.Test.YtneclkkbgonkcaaWRefs
namespace Go.Proofs.Ytneclkkbgonkcaa
open Go.ChangeShapes Go.WideShapes Go.ChangeAt Go.RowKit
set_option linter.unusedVariables false

/-- What the document's TakeList leaves. -/
def RTookP (w : World) (s : ByteArray) (r : List ByteArray × ByteArray × Nat) (e : Ending) (w' : World) : Prop :=
  ∃ A n c, ∃ at_ : Nat, e = .returned (.tuple #[.slice A n c, .int .i64 at_, .int .i64 (r.2.2 : Nat)]) ∧ Txts w' w'.heap.size (.slice A n c) r.1 ∧ Q w w' ∧ (r.2.2 = 0 → at_ ≤ s.size ∧ r.2.1 = s.extract at_ s.size) ∧ (¬ r.2.2 = 0 → at_ = 0)
theorem tt_at {x y b : ByteArray} (h : tt x = (y, b, 0)) : ttn x ≤ x.size ∧ b = x.extract (ttn x) x.size := by
  have hn : ttn x = 2 + cnt x := by rw [ttn, h]; rfl
  rw [hn]
  unfold tt at h
  split at h
  · simp at h
  · split at h
    · simp at h
    · split at h
      · simp at h
      · simp at h; exact ⟨by omega, h.2.symm⟩
theorem own_on {w w' : World} {B base : Nat} {e : TypeId} {v : Value} {n : Nat} {xs : List Value} (h : w.ownsRow base e 1 v n xs) (q : Q w w') : w'.ownsRow base e 1 v n xs := by
  rcases h.2 with ⟨rfl, h0⟩ | ⟨g, cap, cur, rfl, hb, hg, h6⟩
  · exact ⟨h.1, .inl ⟨rfl, h0⟩⟩
  · exact ⟨h.1, .inr ⟨g, cap, cur, rfl, hb, (q.block g (lt_of_block hg)).trans hg, h6⟩⟩
/-- One text more at the end of a row of the call's own. -/
theorem row_step {B : Nat} {w w1 w2 : World} {g : List ByteArray} {x : ByteArray} {v v1 : Value} {o : Obj} (hb : Below B w w1) (hB : B ≤ w.heap.size)
    (h3 : w1.ownsRow B 9 1 v g.length (g.map Value.string)) (ho : w2.ownsRow B 9 1 v1 (g.length + 1) (g.map Value.string ++ [Value.string x])) (hg : (w1.alloc o).grownBy w2 v.ownBlock) :
    w2.ownsRow B 9 1 v1 (g ++ [x]).length ((g ++ [x]).map Value.string) ∧ Below B w w2 := by
  have hs := hb.size
  refine ⟨by rw [List.length_append, List.length_singleton, List.map_append, List.map_singleton]; exact ho, ?_⟩
  exact (hb.alloc (by omega) o).grown hg (by simp; omega) (fun k hk => (World.ownsRow.lt h3 k hk).1)

set_option maxHeartbeats 2000000 in
theorem rtakeList_any (s : ByteArray) (w : World) (hs : s.size ≤ 1000000000) :
    Calls Try.prog 26 #[.string s] w (RTookP w s (tls s)) := by
  obtain ⟨i0, hi0, hz0, hz1, hz2⟩ := info_parts info_str
  obtain ⟨⟨n, r, f⟩, htc⟩ : ∃ x, tc s = x := ⟨_, rfl⟩
  have hsz := tc_size s
  have HC := Lib.hid (rcnt_any s w hs)
  have HS : Hid (tls s = if f = 0 then tl n r else ([], ⟨#[]⟩, f)) := Lib.hid (by rw [tls, htc])
  rw [htc] at hsz HC
  obtain ⟨hr, hn⟩ : r.size ≤ s.size ∧ n ≤ 4000 := hsz
  by_cases hf : f = 0
  · subst hf
    have hr2 : 2 ≤ s.size ∧ r = s.extract 2 s.size := by
      unfold tc at htc
      split at htc
      · simp at htc
      · split at htc
        · simp at htc
        · simp at htc; exact ⟨by omega, htc.2.symm⟩
    obtain ⟨h2, hr2⟩ := hr2
    have HR := Lib.hid hr2
    clear hr2 htc
    have HE : Hid (tls s = ahead [] (tl n r)) := Lib.hid (by rw [HS.out, if_pos rfl, ahead_nil])
    clear HS
    go_enter Try.func26, Try.ntmps26
    go_wp2_with fail
    refine HC.out.mono ?_
    rintro e w1 ⟨rfl, q⟩
    go_wp2_with fail
    go_loopw [7, 8, 9] (fun v P i wr => ∃ (j at_ : Nat) (g : List ByteArray) (x : ByteArray), j ≤ n ∧ g.length ≤ j ∧ at_ ≤ s.size ∧ i = .int .i64 j ∧ P = .int .i64 at_ ∧ Hid (x = s.extract at_ s.size) ∧ wr.ownsRow w.heap.size 9 1 v g.length (g.map Value.string) ∧ Below w.heap.size w wr ∧ Hid (tls s = ahead g (tl (n - j) x))) (fun _ _ i _ => n - (intOf i).toNat)
    case atStart => exact ⟨0, 2, [], r, Nat.zero_le _, Nat.zero_le _, h2, rfl, rfl, HR, World.ownsRow_nil _ _ _ _, q, Lib.hid HE.out⟩
    case round =>
      obtain ⟨j, p, g, x, hj, hg, hp, rfl, rfl, HX, hown, hbel, HA⟩ := hrel
      by_cases hlt : j < n
      · obtain ⟨⟨y, b, f⟩, htt⟩ : ∃ z, tt x = z := ⟨_, rfl⟩
        have hxs : x.size = s.size - p := by rw [HX.out, size_cut _ (Nat.le_refl _)]
        have HY := Lib.hid htt
        have HT := Lib.hid (rtakeText_any x wr (by omega))
        rw [htt] at HT
        rw [HX.out] at HT
        clear htt
        by_cases hf : f = 0
        · subst hf
          obtain ⟨ha, hb⟩ := tt_at HY.out
          have ha' : ttn x ≤ s.size - p := by omega
          have HB : Hid (b = s.extract (p + ttn x) s.size) := Lib.hid (by rw [hb, hxs, HX.out, cut_cut]; congr 1; omega)
          rw [← HX.out] at HT
          obtain ⟨d, hd⟩ : ∃ d, d = ttn x := ⟨_, rfl⟩
          rw [← hd] at HT HB ha'
          rw [HX.out] at HT
          clear hxs hb ha hd
          go_wp2_with fail
          refine HT.out.mono ?_
          rintro e w2 ⟨rfl, q2⟩
          have hown2 := own_on (B := 0) hown q2
          have hbel2 : Below w.heap.size w w2 := Q.trans hbel q2
          have hs2 := hbel2.size
          clear hown
          go_wp2_with (first | (at_builtin; refine wpList_append_own _ rfl _ _ 23 rfl w.heap.size 9 i0 (.string ⟨#[]⟩) 1 16 Try.underlying23 hi0 hz0 hz1 hz2 rfl (by decide) _ g.length (g.map Value.string) rfl (World.ownsRow.alloc hown2 _) ⟨w2.heap.size, 0, none⟩ 1 1 [.string y] rfl rfl (cell_one _ _ _) (by intro u hu; simp at hu; subst hu; rfl) (by unfold maxLen; omega) (by omega) (by simp; omega) ?_; intro v1 w3 ho hgr _; have R := row_step hbel2 (Nat.le_refl _) hown2 ho hgr; clear ho hgr))
          go_roundw
          case rel => exact ⟨j + 1, p + d, g ++ [y], b, by omega, by rw [List.length_append, List.length_singleton]; omega, by omega, by go_num, by go_num, HB, R.1, R.2, Lib.hid (by rw [HA.out, show n - j = (n - (j + 1)) + 1 by omega, ahead_step HY.out])⟩
          case measure => simp [intOf]; omega
        · have HE : Hid (tls s = ([], ⟨#[]⟩, f)) := Lib.hid (by rw [HA.out, show n - j = (n - (j + 1)) + 1 by omega, ahead_bad HY.out hf])
          obtain ⟨d, hd⟩ : ∃ d, d = ttn (s.extract p s.size) := ⟨_, rfl⟩
          rw [← hd] at HT
          clear hxs hd
          go_wp2_with fail
          refine HT.out.mono ?_
          rintro e w2 ⟨rfl, q2⟩
          go_wp2_with fail
          go_ret3
          exact ⟨none, 0, 0, 0, by rw [HE.out]; rfl, by rw [HE.out]; exact Txts.nil _ _, Q.trans hbel q2, fun h => by rw [HE.out] at h; exact absurd h hf, fun _ => rfl⟩
      · have HE : Hid (tls s = (g, x, 0)) := Lib.hid (by rw [HA.out, show n - j = 0 by omega, tl]; simp [ahead])
        obtain ⟨A, m, c, rfl⟩ := own_slice hown
        have ht := Lib.hid (Txts.own hown)
        clear hown
        go_wp2
        go_ret3
        exact ⟨A, m, c, p, by rw [HE.out]; rfl, by rw [HE.out]; exact ht.out, hbel, fun _ => ⟨hp, by rw [HE.out]; exact HX.out⟩, fun h => by rw [HE.out] at h; exact absurd rfl h⟩
  · have HE : Hid (tls s = ([], ⟨#[]⟩, f)) := Lib.hid (by rw [HS.out, if_neg hf])
    clear HS
    go_enter Try.func26, Try.ntmps26
    go_wp2_with fail
    refine HC.out.mono ?_
    rintro e w1 ⟨rfl, q⟩
    go_wp2
    go_ret3
    exact ⟨none, 0, 0, 0, by rw [HE.out]; rfl, by rw [HE.out]; exact Txts.nil _ _, q, fun h => by rw [HE.out] at h; exact absurd h hf, fun _ => rfl⟩
end Go.Proofs.Ytneclkkbgonkcaa
