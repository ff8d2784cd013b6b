/-
  Plain facts: what is begun, laid and aborted keeps the rules.
-/
import Derived.Test.YtlahccmlnbdekaaUWhole
namespace Go.Proofs.Ytlahccmlnbdekaa
open Go.ChangeShapes Go.WideShapes Go.ChangeAt Go.RowKit
set_option linter.unusedVariables false
set_option linter.unusedSimpArgs false
set_option maxRecDepth 100000

theorem okL_iff {L : List Prt} : okL L ↔ (∀ x ∈ L, mayP x = true) ∧ L.Pairwise (fun x y => x.n < y.n) := by
  constructor
  · intro h
    refine ⟨fun x hx => ?_, List.pairwise_iff_getElem.2 fun i j hi hj hij => okL_lt h i j hij hj⟩
    obtain ⟨i, hi, rfl⟩ := List.getElem_of_mem hx
    exact (h i hi).1
  · rintro ⟨h1, h2⟩ i hi
    exact ⟨h1 _ (List.getElem_mem hi), fun j hj => List.pairwise_iff_getElem.1 h2 j i (by omega) hi (by omega)⟩
theorem okUps_iff {l : List Upl} : okUps l ↔ l.length ≤ 10 ∧ (∀ x ∈ l, okUp x) ∧ l.Pairwise (fun x y => x.id < y.id) := by
  constructor
  · intro h
    refine ⟨h.1, fun x hx => ?_, List.pairwise_iff_getElem.2 fun i j hi hj hij => okUps_lt h i j hij hj⟩
    obtain ⟨i, hi, rfl⟩ := List.getElem_of_mem hx
    exact (h.2 i hi).1
  · rintro ⟨h0, h1, h2⟩
    exact ⟨h0, fun i hi => ⟨h1 _ (List.getElem_mem hi), fun j hj => List.pairwise_iff_getElem.1 h2 j i (by omega) hi (by omega)⟩⟩
theorem okL_with {L : List Prt} {p : Prt} (h : okL L) (hp : mayP p = true) : okL (withP L p) := by
  obtain ⟨h1, h2⟩ := okL_iff.1 h
  refine okL_iff.2 ⟨fun x hx => ?_, ?_⟩
  · rw [withP, List.mem_append, List.mem_append] at hx
    rcases hx with (hx | hx) | hx
    · exact h1 x (List.mem_filter.1 hx).1
    · obtain rfl : x = p := by simpa using hx
      exact hp
    · exact h1 x (List.mem_filter.1 hx).1
  · rw [withP, List.pairwise_append, List.pairwise_append]
    refine ⟨⟨h2.filter _, by simp, fun a ha b hb => ?_⟩, h2.filter _, fun a ha b hb => ?_⟩
    · obtain rfl : b = p := by simpa using hb
      simpa using (List.mem_filter.1 ha).2
    · have hb2 : p.n < b.n := by simpa using (List.mem_filter.1 hb).2
      rw [List.mem_append] at ha
      rcases ha with ha | ha
      · have : a.n < p.n := by simpa using (List.mem_filter.1 ha).2
        omega
      · obtain rfl : a = p := by simpa using ha
        exact hb2
theorem okUps_set {l : List Upl} {i : Nat} {X : Upl} (h : okUps l) (hi : i < l.length) (hx : okUp X) (he : X.id = l[i].id) : okUps (l.set i X) := by
  obtain ⟨h0, h1, h2⟩ := okUps_iff.1 h
  refine okUps_iff.2 ⟨by rw [List.length_set]; exact h0, fun x hx' => ?_, ?_⟩
  · rcases List.mem_or_eq_of_mem_set hx' with k | k
    · exact h1 x k
    · rw [k]; exact hx
  · rw [List.pairwise_iff_getElem]
    intro a b ha hb hab
    rw [List.length_set] at ha hb
    have k := List.pairwise_iff_getElem.1 h2 a b ha hb hab
    rw [List.getElem_set, List.getElem_set]
    by_cases e1 : i = a
    · by_cases e2 : i = b
      · omega
      · rw [if_pos e1, if_neg e2, he]; subst e1; exact k
    · by_cases e2 : i = b
      · rw [if_neg e1, if_pos e2, he]; subst e2; exact k
      · rw [if_neg e1, if_neg e2]; exact k
theorem layC_ok {l : List Upl} {id : Nat} {p : Prt} {r : List Upl} {t : Nat} (h : LayC l id p r t 0) : okUps r := by
  cases h with
  | yes i hi h1 h2 h3 h4 h5 =>
    have hu := (okUps_iff.1 h1).2.1 _ (List.getElem_mem hi)
    exact okUps_set h1 hi ⟨hu.1, by show (withP l[i].L p).length ≤ 30; omega, okL_with hu.2.2 h2⟩ rfl
theorem beginC_ok {l : List Upl} {id : Nat} {key : ByteArray} {r : List Upl} (h : BeginC l id key r 0) : okUps r := by
  cases h with
  | yes h1 h2 h3 h4 =>
    obtain ⟨k0, k1, k2⟩ := okUps_iff.1 h1
    refine okUps_iff.2 ⟨by rw [List.length_append, List.length_singleton]; omega, fun x hx => ?_, ?_⟩
    · rw [List.mem_append] at hx
      rcases hx with hx | hx
      · exact k1 x hx
      · obtain rfl : x = _ := by simpa using hx
        exact ⟨h2, by show (0 : Nat) ≤ 30; omega, fun i hi => absurd hi (by simp)⟩
    · rw [List.pairwise_append]
      refine ⟨k2, by simp, fun a ha b hb => ?_⟩
      obtain rfl : b = _ := by simpa using hb
      exact h3 a ha
theorem rmU_ok {l : List Upl} {id : Nat} (h : okUps l) : okUps (rmU l id) := by
  obtain ⟨k0, k1, k2⟩ := okUps_iff.1 h
  exact okUps_iff.2 ⟨Nat.le_trans (rmU_length l id) k0, fun x hx => k1 x (List.mem_filter.1 hx).1, k2.filter _⟩
theorem okUp_sm {u : Upl} (h : okUp u) : smU u := by
  obtain ⟨h1, h2, h3⟩ := h
  rw [mayB, Bool.and_eq_true, hasO, Bool.and_eq_true, Bool.and_eq_true] at h1
  have hk : u.key.size ≤ 60 := by simpa using h1.2.1.2
  refine ⟨by omega, by omega, fun x hx => ?_⟩
  have := (mayP_iff.1 ((okL_iff.1 h3).1 x hx)).2.2
  omega
theorem okUps_sm {l : List Upl} (h : okUps l) : smL l := ⟨by have := h.1; omega, fun x hx => okUp_sm ((okUps_iff.1 h).2.1 x hx)⟩
/-- The one upload of the examples. -/
def kK : ByteArray := ⟨#[107]⟩
theorem ok_k : mayB 1 kK = true := by decide +kernel
def tH : ByteArray := ⟨#[104, 101, 108, 108, 111]⟩
def tW : ByteArray := ⟨#[119, 111, 114, 108, 100]⟩
def tF : ByteArray := ⟨#[102, 111, 117, 114]⟩
theorem lay_one {L : List Prt} {p : Prt} (h : okUps [⟨1, kK, L⟩]) (hp : mayP p = true) (hl : (withP L p).length ≤ 30) : LayC [⟨1, kK, L⟩] 1 p [⟨1, kK, withP L p⟩] (crc (bl p.data)) 0 :=
  .yes 0 (by simp) h hp rfl (fun j hj => by omega) (by show ¬ 30 < (withP L p).length; omega)
def P2 : List Prt := [⟨2, tH⟩]
def P12 : List Prt := [⟨1, tW⟩, ⟨2, tH⟩]
def P123 : List Prt := [⟨1, tW⟩, ⟨2, tH⟩, ⟨3, tF⟩]
def P123' : List Prt := [⟨1, tF⟩, ⟨2, tH⟩, ⟨3, tF⟩]
theorem w2 : withP [] ⟨2, tH⟩ = P2 := rfl
theorem w12 : withP P2 ⟨1, tW⟩ = P12 := by simp [withP, P2, P12]
theorem w123 : withP P12 ⟨3, tF⟩ = P123 := by simp [withP, P12, P123]
theorem w123' : withP P123 ⟨1, tF⟩ = P123' := by simp [withP, P123, P123']
theorem bg0 : BeginC [] 1 kK [⟨1, kK, []⟩] 0 := .yes ⟨by simp, fun i hi => absurd hi (by simp)⟩ ok_k (by simp) (by simp)
theorem ly1 : LayC [⟨1, kK, []⟩] 1 ⟨2, tH⟩ [⟨1, kK, P2⟩] (crc (bl tH)) 0 := lay_one (beginC_ok bg0) (by decide +kernel) (by rw [w2]; decide)
theorem ly2 : LayC [⟨1, kK, P2⟩] 1 ⟨1, tW⟩ [⟨1, kK, P12⟩] (crc (bl tW)) 0 := by
  have := lay_one (layC_ok ly1) (p := ⟨1, tW⟩) (by decide +kernel) (by rw [w12]; decide)
  rw [w12] at this; exact this
theorem ly3 : LayC [⟨1, kK, P12⟩] 1 ⟨3, tF⟩ [⟨1, kK, P123⟩] (crc (bl tF)) 0 := by
  have := lay_one (layC_ok ly2) (p := ⟨3, tF⟩) (by decide +kernel) (by rw [w123]; decide)
  rw [w123] at this; exact this
theorem ly4 : LayC [⟨1, kK, P123⟩] 1 ⟨1, tF⟩ [⟨1, kK, P123'⟩] (crc (bl tF)) 0 := by
  have := lay_one (layC_ok ly3) (p := ⟨1, tF⟩) (by decide +kernel) (by rw [w123']; decide)
  rw [w123'] at this; exact this
theorem fd1 : FindC [⟨1, kK, P123⟩] 1 ⟨1, kK, P123⟩ 0 := .yes 0 (by simp) (layC_ok ly3) rfl (fun j hj => by omega)
theorem fd2 : FindC [⟨1, kK, P123'⟩] 1 ⟨1, kK, P123'⟩ 0 := .yes 0 (by simp) (layC_ok ly4) rfl (fun j hj => by omega)
theorem okU1 : okUp ⟨1, kK, P123⟩ := (okUps_iff.1 (layC_ok ly3)).2.1 _ (by simp)
theorem okU2 : okUp ⟨1, kK, P123'⟩ := (okUps_iff.1 (layC_ok ly4)).2.1 _ (by simp)
theorem pc1 : PartC P123 1 ⟨1, tW⟩ true := .yes 0 (by simp [P123]) rfl (fun j hj => by omega)
theorem pc2 : PartC P123 2 ⟨2, tH⟩ true := .yes 1 (by simp [P123]) rfl (fun j hj hl => by
  obtain rfl : j = 0 := by omega
  show (1 : Int) ≠ 2; decide)
theorem pd1 : PartC P123' 1 ⟨1, tF⟩ true := .yes 0 (by simp [P123']) rfl (fun j hj => by omega)
theorem pd2 : PartC P123' 2 ⟨2, tH⟩ true := .yes 1 (by simp [P123']) rfl (fun j hj hl => by
  obtain rfl : j = 0 := by omega
  show (1 : Int) ≠ 2; decide)
theorem rise12 (a b : Nat) : riseP [⟨1, a⟩, ⟨2, b⟩] := fun i hi => by
  obtain rfl : i = 0 := by simp at hi; omega
  show (1 : Int) < 2; decide
theorem rise21 (a b : Nat) : ¬ riseP [⟨2, a⟩, ⟨1, b⟩] := fun h => by
  have := h 0 (by simp)
  revert this
  show ¬ (2 : Int) < 1
  decide
def sWH : ByteArray := ⟨#[119, 111, 114, 108, 100, 104, 101, 108, 108, 111]⟩
theorem lb_of {L : List Prt} {n : Int} {p : Prt} (h : PartC L n p true) : lackB L ⟨n, crc (bl p.data)⟩ = false := by
  rw [lackB_yes (x := ⟨n, crc (bl p.data)⟩) h]; simp
theorem wh1 : ∃ t, WholeC ⟨1, kK, P123⟩ [⟨1, crc (bl tW)⟩, ⟨2, crc (bl tH)⟩] (bl sWH) t 0 := by
  have e : catB P123 [⟨1, crc (bl tW)⟩, ⟨2, crc (bl tH)⟩] = bl sWH := by
    simp only [catB, List.flatMap_cons, List.flatMap_nil, List.append_nil]
    rw [partD_is pc1, partD_is pc2]; decide +kernel
  have h1 : lackB P123 ⟨1, crc (bl tW)⟩ = false := lb_of pc1
  have h2 : lackB P123 ⟨2, crc (bl tH)⟩ = false := lb_of pc2
  have h3 : lackO P123 ⟨1, crc (bl tW)⟩ = false := by rw [lackO_is (x := ⟨1, crc (bl tW)⟩) pc1]; decide +kernel
  have := WholeC.yes (u := ⟨1, kK, P123⟩) (l := [⟨1, crc (bl tW)⟩, ⟨2, crc (bl tH)⟩]) okU1 (by simp) (rise12 _ _) (by simp [h1, h2]) (by simp [h3]) (by show ¬ 2000 < (catB P123 _).length; rw [e]; decide +kernel)
  rw [show catB (Upl.L ⟨1, kK, P123⟩) [⟨1, crc (bl tW)⟩, ⟨2, crc (bl tH)⟩] = bl sWH from e] at this
  exact ⟨_, this⟩
theorem wh2 : WholeC ⟨1, kK, P123⟩ [⟨2, crc (bl tH)⟩, ⟨1, crc (bl tW)⟩] [] [] 9 := .order okU1 (by simp) (rise21 _ _)
theorem wh3 : WholeC ⟨1, kK, P123'⟩ [⟨1, crc (bl tF)⟩, ⟨2, crc (bl tH)⟩] [] [] 3 := by
  have h1 : lackB P123' ⟨1, crc (bl tF)⟩ = false := lb_of pd1
  have h2 : lackB P123' ⟨2, crc (bl tH)⟩ = false := lb_of pd2
  have h3 : lackO P123' ⟨1, crc (bl tF)⟩ = true := by rw [lackO_is (x := ⟨1, crc (bl tF)⟩) pd1]; decide +kernel
  exact .short okU2 (by simp) (rise12 _ _) (by simp [h1, h2]) (by simp [h3])
/-- Two pieces in a block of their own. -/
theorem pces_two (w : World) (x y : Pce) (hx : okC x) (hy : okC y) : Pces (w.alloc (.cells #[.int .i64 x.n, .int .u32 (x.tag : Nat), .int .i64 y.n, .int .u32 (y.tag : Nat)] 65)) (w.heap.size + 1) (.slice (some ⟨w.heap.size, 0, none⟩) 2 2) [x, y] := by
  refine ⟨_, _, rfl, Nat.le_refl _, (by simp), fun z hz => ?_, fun k hk => ?_⟩
  · rcases List.mem_cons.1 hz with rfl | hz
    · exact hx
    · obtain rfl : z = y := by simpa using hz
      exact hy
  · have hk2 : k < 2 := by simpa using hk
    rcases Nat.lt_or_ge k 1 with h | h
    · obtain rfl : k = 0 := by omega
      exact ⟨_, rfl, by simp, by simp [Addr.add], by simp [Addr.add]⟩
    · obtain rfl : k = 1 := by omega
      exact ⟨_, rfl, by simp, by simp [Addr.add], by simp [Addr.add]⟩
end Go.Proofs.Ytlahccmlnbdekaa
