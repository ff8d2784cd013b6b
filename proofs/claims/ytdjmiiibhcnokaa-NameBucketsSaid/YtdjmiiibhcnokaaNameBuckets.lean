/-
  Proved: whatever text and octet NameBuckets is called with, it returns true and leaves what it was given as it was. No condition.
-/
import Derived.Test.YtdjmiiibhcnokaaAwake
import Derived.OpenShut
import Derived.ShutString
import Derived.ChangeOld
namespace Go.Proofs.Ytdjmiiibhcnokaa.nameBuckets
open Go.ChangeShapes Go.WideShapes Go.ChangeAt Go.RowKit
open Go.ChangeMaps (open_string shut_string)
set_option linter.unusedVariables false

def bucketL (l : List UInt8) : Bool := decide (3 ≤ l.length) && decide (l.length ≤ 20) && l.all (fun c => bo c.toNat) && ((l.headD 0).toNat : Int) != 45 && ((l.getLastD 0).toNat : Int) != 45
theorem bucketO_list (s : ByteArray) : bucketO s = bucketL s.data.toList := by
  unfold bucketO hasO allO bucketL
  have : s.data.toList.length = s.size := Array.length_toList
  rw [this]
def letter (n : Int) : Bool := (decide (97 ≤ n) && decide (n ≤ 122)) || (decide (48 ≤ n) && decide (n ≤ 57))

theorem bo_ko {n : Int} (h : bo n = true) : ko n = true := by
  unfold bo at h; unfold ko; simp at *; omega
theorem key_of_bucket {s : ByteArray} (h : bucketO s = true) : hasO 1 60 ko s = true := by
  unfold bucketO at h
  simp only [Bool.and_eq_true] at h
  have hz := hasO_size h.1.1
  have ha := hasO_all h.1.1
  unfold hasO
  simp only [Bool.and_eq_true, decide_eq_true_eq]
  refine ⟨⟨by omega, by omega⟩, ?_⟩
  unfold allO at *
  rw [List.all_eq_true] at *
  exact fun c hc => bo_ko (ha c hc)

theorem cons_bucket (c : UInt8) {l : List UInt8} (h : bucketL l = true) : bucketL (c :: l) = (letter c.toNat && decide (l.length ≤ 19)) := by
  cases l with
  | nil => simp [bucketL] at h
  | cons x r =>
    unfold bucketL at h ⊢
    simp only [Bool.and_eq_true, decide_eq_true_eq, bne_iff_ne, ne_eq] at h
    obtain ⟨⟨⟨⟨h1, h2⟩, h3⟩, h4⟩, h5⟩ := h
    have e1 : (c :: x :: r).getLastD 0 = (x :: r).getLastD 0 := by simp [List.getLastD]
    rw [e1, Bool.eq_iff_iff]
    simp only [Bool.and_eq_true, decide_eq_true_eq, bne_iff_ne, ne_eq, List.all_cons, List.headD_cons, List.length_cons] at *
    constructor
    · rintro ⟨⟨⟨⟨_, b⟩, c1, _⟩, d⟩, _⟩
      refine ⟨?_, by omega⟩
      unfold bo at c1; unfold letter
      simp only [Bool.or_eq_true, Bool.and_eq_true, decide_eq_true_eq, beq_iff_eq] at *
      omega
    · rintro ⟨a, b⟩
      unfold letter at a
      simp only [Bool.or_eq_true, Bool.and_eq_true, decide_eq_true_eq] at a
      refine ⟨⟨⟨⟨by omega, by omega⟩, ?_, h3⟩, by omega⟩, h5⟩
      unfold bo
      simp only [Bool.or_eq_true, Bool.and_eq_true, decide_eq_true_eq, beq_iff_eq]
      omega

theorem tail_bucket {x y : UInt8} {r : List UInt8} (h : bucketL (x :: y :: r) = true) : bucketL (y :: r) = (decide (3 ≤ r.length + 1) && (y.toNat : Int) != 45) := by
  unfold bucketL at h ⊢
  simp only [Bool.and_eq_true, decide_eq_true_eq, bne_iff_ne, ne_eq] at h
  obtain ⟨⟨⟨⟨h1, h2⟩, h3⟩, h4⟩, h5⟩ := h
  have e1 : (x :: y :: r).getLastD 0 = (y :: r).getLastD 0 := by simp [List.getLastD]
  rw [e1] at h5
  rw [Bool.eq_iff_iff]
  simp only [Bool.and_eq_true, decide_eq_true_eq, bne_iff_ne, ne_eq, List.all_cons, List.headD_cons, List.length_cons] at *
  constructor
  · rintro ⟨⟨⟨⟨a, _⟩, _⟩, d⟩, _⟩; exact ⟨a, d⟩
  · rintro ⟨a, d⟩; exact ⟨⟨⟨⟨a, by omega⟩, h3.2⟩, d⟩, h5⟩

theorem cons_facts {s : ByteArray} (h : bucketO s = true) (n : Int) (h0 : 0 ≤ n) (h1 : n ≤ 255) : bucketO (⟨#[UInt8.ofNat n.toNat]⟩ ++ s) = (letter n && decide (s.size ≤ 19)) := by
  rw [bucketO_list] at *
  have e : (ByteArray.mk #[UInt8.ofNat n.toNat] ++ s).data.toList = UInt8.ofNat n.toNat :: s.data.toList := by simp
  have e2 : ((UInt8.ofNat n.toNat).toNat : Int) = n := by rw [UInt8.toNat_ofNat']; omega
  have e3 : s.data.toList.length = s.size := Array.length_toList
  rw [e, cons_bucket _ h, e2, e3]
theorem tail_facts {s : ByteArray} (h : bucketO s = true) (h1 : 1 < s.size) : bucketO (s.extract 1 s.size) = (decide (3 < s.size) && (s[1].toNat : Int) != 45) := by
  rw [bucketO_list] at *
  obtain ⟨⟨l⟩⟩ := s
  match l, h1 with
  | x :: y :: r, _ =>
    have e : (ByteArray.extract ⟨⟨x :: y :: r⟩⟩ 1 (ByteArray.size ⟨⟨x :: y :: r⟩⟩)).data.toList = y :: r := by simp [ByteArray.size]
    rw [e, tail_bucket h]
    show (decide (3 ≤ r.length + 1) && _) = (decide (3 < (x :: y :: r).length) && (y.toNat : Int) != 45)
    have : decide (3 ≤ r.length + 1) = decide (3 < (x :: y :: r).length) := by rw [Bool.eq_iff_iff]; simp; omega
    rw [this]
  | [_], h => simp [ByteArray.size] at h
  | [], h => simp [ByteArray.size] at h

theorem bucket_size {s : ByteArray} (h : bucketO s = true) : 3 ≤ s.size ∧ s.size ≤ 20 := by
  unfold bucketO at h; simp only [Bool.and_eq_true] at h; exact hasO_size h.1.1

attribute [local irreducible] bucketO hasO few

set_option maxHeartbeats 4000000 in
theorem walk (a0 : ByteArray) (a1 : Int) (w0 : a0.size ≤ maxLen) (w1 : (Lit.int .u8 a1).wf = true) (w : World) :
    Calls Try.prog 9 #[.string a0, .int .u8 a1] w fun e w' => e = .returned (.bool true) ∧ Below w.heap.size w w' := by
  have hx : 0 ≤ a1 ∧ a1 ≤ 255 := by simpa [Lit.wf, IntKind.min, IntKind.max, IntKind.signed, IntKind.bits] using w1
  obtain ⟨hx0, hx1⟩ := hx
  have s80 : (few a0).size ≤ 80 := few_size _
  have s0 : (few a0).size ≤ 1000 := by omega
  cases hB : bucketO (few a0) with
  | false =>
    go_enter Try.func9, Try.ntmps9
    go_wp2_with fail
    refine (few_any _ _ w0).mono ?_
    rintro e x1 ⟨rfl, rfl⟩
    go_wp2_with fail
    refine (bucket_any _ _ s0).mono ?_
    rintro e x2 ⟨rfl, q1⟩
    go_wp2_with fail
    refine (awake_any _).mono ?_
    rintro e x3 ⟨rfl, q2⟩
    go_wp2
    go_ret
    exact ⟨rfl, q1.trans q2⟩
  | true =>
    have hK := key_of_bucket hB
    have hz : 3 ≤ (few a0).size ∧ (few a0).size ≤ 20 := by
      exact bucket_size hB
    obtain ⟨hz1, hz2⟩ := hz
    have hT := cons_facts hB a1 hx0 hx1
    have hS := tail_facts hB (by omega)
    have st : ((ByteArray.mk #[UInt8.ofNat a1.toNat]) ++ few a0).size ≤ 1000 := by rw [ByteArray.size_append]; show 1 + _ ≤ _; omega
    have ss : ((few a0).extract 1 (few a0).size).size ≤ 1000 := by simp; omega
    have ST := Lib.hid st
    have SS := Lib.hid ss
    have HT := Lib.hid hT
    have HS := Lib.hid hS
    clear st ss hT hS
    have hband : a1 < 48 ∨ (48 ≤ a1 ∧ a1 ≤ 57) ∨ (57 < a1 ∧ a1 < 97) ∨ (97 ≤ a1 ∧ a1 ≤ 122) ∨ 122 < a1 := by omega
    have hcase : (few a0).size ≤ 3 ∨ (3 < (few a0).size ∧ (few a0).size ≤ 19) ∨ 19 < (few a0).size := by omega
    rcases hband with b | ⟨b, b'⟩ | ⟨b, b'⟩ | ⟨b, b'⟩ | b
    all_goals
      rcases hcase with d | ⟨d, d'⟩ | d
      all_goals
        first
          | (have hT : bucketO (ByteArray.mk #[UInt8.ofNat a1.toNat] ++ few a0) = false := by rw [HT.out]; unfold letter; simp; omega)
          | (have hT : bucketO (ByteArray.mk #[UInt8.ofNat a1.toNat] ++ few a0) = true := by rw [HT.out]; unfold letter; simp; omega)
        first
          | (have hU : decide (1 + ((few a0).size : Int) ≤ 20) = false := by simp; omega)
          | (have hU : decide (1 + ((few a0).size : Int) ≤ 20) = true := by simp; omega)
        go_enter Try.func9, Try.ntmps9
        go_wp2_with fail
        refine (few_any _ _ w0).mono ?_
        rintro e x1 ⟨rfl, rfl⟩
        go_wp2_with fail
        refine (bucket_any _ _ s0).mono ?_
        rintro e x2 ⟨rfl, q1⟩
        have hcv := fun (W : World) (h : W.cell? ⟨x2.heap.size, 0, none⟩ = some (.int .u8 a1)) => conv1 W ⟨x2.heap.size, 0, none⟩ a1 1 hx0 hx1 h
        go_wp2_with fail
        refine (key_any _ _ s0).mono ?_
        rintro e x4 ⟨rfl, q2⟩
        go_wp2_with fail
        refine (bucket_any _ _ ST.out).mono ?_
        rintro e x5 ⟨rfl, q3⟩
        cases hd : (((few a0)[1].toNat : Int) != 45)
        all_goals
          first
            | (have hS : bucketO ((few a0).extract 1 (few a0).size) = true := by rw [HS.out, hd]; simp; omega)
            | (have hS : bucketO ((few a0).extract 1 (few a0).size) = false := by rw [HS.out, hd]; simp; done)
            | (have hS : bucketO ((few a0).extract 1 (few a0).size) = false := by rw [HS.out, hd]; simp; omega)
          go_wp2_with fail
          refine (bucket_any _ _ SS.out).mono ?_
          rintro e y1 ⟨rfl, q4⟩
          go_wp2_with fail
          refine (awake_any _).mono ?_
          rintro e y2 ⟨rfl, q5⟩
          go_wp2
          go_ret
          exact ⟨rfl, (((q1.trans ((Q.refl _).alloc _)).trans q2).trans q3).trans (q4.trans q5)⟩

theorem own : ownKnob Try.prog.godebug = none := by kernel_rfl

set_option maxRecDepth 100000 in
theorem lifted (os : Os) (started : os.Started) (H : Type) (enc : TypeId × Value → H) :
    ReturnsInHanded {} Try.checked os 9 .any (Rows.nameBucketsSpec.pre6 enc Try.prog Try.f9 Rows.nameBucketsRow.domain false) (Rows.nameBucketsSpec.post enc Try.prog Try.f9 false true false false) := by
  refine returnsInHanded_of_change (C := Try.checked) own started (by kernel_rfl) Try.func9
    (ChangeSpec.witness6 (enc := enc) (C := Try.checked) false ⟨#[], #[.string ByteArray.empty, .int .u8 0], []⟩ 8 (by kernel_rfl) (by kernel_rfl) (by kernel_rfl) (by kernel_rfl)) ?_
  intro W base args ds gs before hval0 hW hcnd _
  have hval : ∀ (j : Nat) t v, Try.f9.params[j]? = some t → args[j]? = some v → Value.okWide Try.prog W .any base t v := hval0
  have hW' := hW
  obtain ⟨p, q, hA0, hV, rfl, hfz, hnd⟩ := hW
  have hA : DataW.TrodAll enc Try.prog W 0 (fun _ => true) true Try.f9.params.toList args.toList ds p := hA0
  rw [Try.params9] at hA hval
  obtain ⟨v0, vs0, d0, ds0, p0, q0, hargs, rfl, rfl, h0, r0⟩ := trodAll_cons hA
  obtain ⟨v1, vs1, d1, ds1, p1, q1, rfl, rfl, rfl, h1, r1⟩ := trodAll_cons r0
  obtain ⟨rfl, rfl, rfl⟩ := trodAll_nil r1
  obtain rfl : args = #[v0, v1] := by cases args; simp_all
  obtain ⟨rfl, rfl⟩ := trodVars_none hV
  obtain ⟨a0, rfl, rfl, rfl, w0⟩ := open_string Try.underlying9 (hval 0 9 v0 rfl rfl) h0
  obtain ⟨a1, rfl, rfl, rfl, w1⟩ := open_int Try.underlying5 (hval 1 5 v1 rfl rfl) h1
  clear hA0 hval0
  simp only [List.append_nil] at hW'
  refine (walk a0 a1 w0 w1 W).mono fun e W' ⟨he, bel⟩ => ?_
  subst he
  exact ⟨_, rfl, _, _, _, [], _, [], hW', trodAll_mk1 (shut_bool Try.underlying4 _), (trodAll_cons_mk (shut_string Try.underlying9 w0) (trodAll_cons_mk (shut_int Try.underlying5 w1) trodAll_mk0)), rfl, bel.frame _, fun h => by cases h⟩

theorem over : Rows.nameBucketsRow.holds Try.pinned (OpenSpec.ofChange Rows.nameBucketsSpec) :=
  OpenClaim.holds_of_wide 9 Try.f9 rfl rfl rfl rfl rfl rfl rfl ⟨rfl, rfl, rfl, rfl, rfl⟩ rfl rfl rfl rfl rfl (by kernel_rfl) Try.func9 (by kernel_rfl)
    (of_decide_eq_true (by kernel_rfl)) (by unfold Func.isWrapper; first | (rw [if_pos (by decide +kernel)]; kernel_rfl) | (rw [if_neg (by decide +kernel)]; exact ⟨rfl, rfl⟩))
    (fun os started H enc _ => lifted os started H enc)

theorem proved : Rows.NameBucketsSaid := over
#print axioms proved
end Go.Proofs.Ytdjmiiibhcnokaa.nameBuckets
