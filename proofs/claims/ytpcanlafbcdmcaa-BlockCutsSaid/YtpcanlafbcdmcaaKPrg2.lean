/-
  Contracts of last octets: number, endingAt, endingOf, follow, isTorn; and of the document's foot.
-/
import Derived.Test.YtpcanlafbcdmcaaKPrg1
import Derived.Test.YtpcanlafbcdmcaaKEq
import Derived.Test.YtpcanlafbcdmcaaBxK
import Derived.Test.YtpcanlafbcdmcaaTk
import Derived.Deep.QuietTactic
import Derived.BigQuiet
import Derived.Lib.BufferWrite
namespace Go.Proofs.Ytpcanlafbcdmcaa
set_option maxRecDepth 100000
open Go.ChangeShapes Go.WideShapes Go.ChangeAt Go.RowKit
set_option linter.unusedVariables false
set_option linter.unusedSimpArgs false
set_option maxRecDepth 100000

theorem add_flat (R n : Nat) : (⟨R, 0, none⟩ : Addr).add n = ⟨R, n, none⟩ := by
  by_cases h : n = 0
  · subst h; rfl
  · simp [Addr.add, h]
theorem Q.set {a b : World} (h : Q a b) {g k : Nat} (hg : a.heap.size ≤ g) (u : Value) : Q a (b.setCell ⟨g, k, none⟩ u) := Below.setCell h hg u
/-- Last octets as the program has them. -/
def endV (a b c d : Nat) : Value := .agg #[.int .u8 a, .int .u8 b, .int .u8 c, .int .u8 d]
def endB (b : ByteArray) : Value := endV (atK b 60) (atK b 61) (atK b 62) (atK b 63)
def endP (p f : Nat) : Value := endV (f % 256) (f / 256 % 256) (if p = 0 then 1 else 2) 165
theorem or_join (a b : Nat) (ha : a < 256) (hb : b < 256) : bits .or .i64 (a : Int) ((b : Int) * 256) = ((a + 256 * b : Nat) : Int) := by
  have h := (bits_nat .i64 62 (by decide) (fun n h0 h1 => by rw [IntKind.wrap_i64]; omega) a (256 * b) (by omega) (by omega)).2
  rw [show ((b : Int) * 256) = ((256 * b : Nat) : Int) by omega, h]
  have h2 := Nat.two_pow_add_eq_or_of_lt (i := 8) (b := a) (by omega) b
  rw [show 2 ^ 8 * b = 256 * b by omega] at h2
  rw [Nat.or_comm, ← h2]; omega
theorem number_any (a b : Nat) (w : World) (ha : a < 256) (hb : b < 256) : Calls Try.prog 30 #[.int .u8 a, .int .u8 b] w fun e w' => e = .returned (.int .i64 (a + 256 * b : Nat)) ∧ D w w' := by
  have ho := or_join a b ha hb
  obtain ⟨n, hn⟩ : ∃ n, n = a + 256 * b := ⟨_, rfl⟩
  rw [← hn] at ho ⊢
  clear hn
  go_enter Try.func30, Try.ntmps30
  go_wp2
  go_ret
  exact ⟨rfl, D.refl _⟩
theorem int_mod (f : Nat) : ((f % 256 : Nat) : Int) = (f : Int) % 256 := by simp
theorem int_div (f : Nat) (hf : f < 65536) : ((f / 256 % 256 : Nat) : Int) = (f : Int) / 256 := by
  rw [Nat.mod_eq_of_lt (by omega)]; simp
theorem endAt_any (p f : Nat) (w : World) (hp : p < 70000) (hf : f < 65536) : Calls Try.prog 29 #[.int .i64 p, .int .i64 f] w fun e w' => e = .returned (endP p f) ∧ Q w w' := by
  by_cases h : p = 0
  · have HV : Hid (endP p f = .agg #[.int .u8 ((f : Int) % 256), .int .u8 ((f : Int) / 256), .int .u8 1, .int .u8 165]) := Lib.hid (by rw [endP, if_pos h, endV, int_mod, int_div f hf]; rfl)
    rw [HV.out]
    subst h
    go_enter Try.func29, Try.ntmps29
    go_wp2
    refine bodyPost_ret (v := .agg #[.int .u8 ((f : Int) % 256), .int .u8 ((f : Int) / 256), .int .u8 1, .int .u8 165]) (by simp [results, Try.results29, go_sem]) rfl ⟨rfl, (Q.refl w).alloc _⟩
  · have HV : Hid (endP p f = .agg #[.int .u8 ((f : Int) % 256), .int .u8 ((f : Int) / 256), .int .u8 2, .int .u8 165]) := Lib.hid (by rw [endP, if_neg h, endV, int_mod, int_div f hf]; rfl)
    rw [HV.out]
    have h' : ((p : Int) == 0) = false := beq_false_of_ne (by omega)
    go_enter Try.func29, Try.ntmps29
    go_wp2
    refine bodyPost_ret (v := .agg #[.int .u8 ((f : Int) % 256), .int .u8 ((f : Int) / 256), .int .u8 2, .int .u8 165]) (by simp [results, Try.results29, go_sem]) rfl ⟨rfl, (Q.refl w).alloc _⟩
theorem wp_copy_str {w : World} {o : Oper} {a : Act} {K : Act → World → Prop} {Q' : Exit → Act → World → Prop} (d s : Operand)
    (ho : o.op = .call { callee := .builtin .copy, args := #[d, s], argTypes := #[45, 9] }) (g : Nat) (t : ByteArray) (ty : TypeId) (hd : a.eval d = .slice (some ⟨g, 0, none⟩) 4 4) (hs : a.eval s = .string t)
    (hg : Bx w g ty #[.int .u8 0, .int .u8 0, .int .u8 0, .int .u8 0]) (hn : t.size = 4)
    (h : ∀ w', Bx w' g ty (Lib.byteCells (bl t)).toArray → Kp g w w' → K (a.put o.dst (goInt 4)) w') : o.wp Try.prog a w K Q' := by
  have hrun := Lib.run_copy_row_string (P := Try.prog) w 45 9 o.type 5 g 0 4 4 t _ ty Try.underlying45 (by kernel_rfl) hg (by omega) (by simp; omega)
  rw [hn] at hrun
  have e : (List.take 0 [Value.int .u8 0, Value.int .u8 0, Value.int .u8 0, Value.int .u8 0] ++ Lib.byteCells t.data.toList ++ List.drop (0 + 4) [Value.int .u8 0, Value.int .u8 0, Value.int .u8 0, Value.int .u8 0]) = Lib.byteCells (bl t) := by
    simp [bl]
  simp only [e] at hrun
  unfold Oper.wp
  simp [execOp, ho, resolve, invoke, builtin, hd, hs, hrun, Result.andThen]
  exact h _ (setRow_heap w g _ _ _ _ hg) ⟨rfl, rfl, rfl, by simp, fun k _ hk => setRow_other w g k _ (fun e => hk (by rw [e]))⟩
theorem cells_of4 (b : ByteArray) (hb : b.size = 64) : (Lib.byteCells (bl (b.extract 60 64))).toArray = #[.int .u8 (atK b 60), .int .u8 (atK b 61), .int .u8 (atK b 62), .int .u8 (atK b 63)] := by
  have hl : (bl b).length = 64 := by rw [bl_length, hb]
  have e : bl (b.extract 60 64) = [(bl b)[60]'(by omega), (bl b)[61]'(by omega), (bl b)[62]'(by omega), (bl b)[63]'(by omega)] := by
    rw [bl_extract]
    apply List.ext_getElem
    · simp only [List.length_take, List.length_drop, hl, List.length_cons, List.length_nil]; omega
    · intro i h1 h2
      rw [List.getElem_take, List.getElem_drop]
      have : i < 4 := h2
      match i, this with
      | 0, _ => rfl
      | 1, _ => rfl
      | 2, _ => rfl
      | 3, _ => rfl
  have g : ∀ i (h : i < (bl b).length), ((bl b)[i].toNat : Nat) = atK b i := fun i h => by rw [atK, List.getElem?_eq_getElem h]; rfl
  rw [e]
  simp only [Lib.byteCells, List.map_cons, List.map_nil]
  rw [g 60 (by omega), g 61 (by omega), g 62 (by omega), g 63 (by omega)]
set_option maxHeartbeats 4000000 in
theorem endOf_any (b : ByteArray) (w : World) (hb : b.size = 64) : Calls Try.prog 31 #[.string b] w fun e w' => e = .returned (endB b) ∧ Q w w' := by
  have h1 : (b.size : Int) = 64 := by omega
  have hx : (b.extract 60 64).size = 4 := by rw [size_cut _ (by omega)]
  have HC := Lib.hid (cells_of4 b hb)
  rw [endB, endV]
  obtain ⟨a0, h0⟩ : ∃ a0, a0 = atK b 60 := ⟨_, rfl⟩
  obtain ⟨a1, h1'⟩ : ∃ a1, a1 = atK b 61 := ⟨_, rfl⟩
  obtain ⟨a2, h2⟩ : ∃ a2, a2 = atK b 62 := ⟨_, rfl⟩
  obtain ⟨a3, h3⟩ : ∃ a3, a3 = atK b 63 := ⟨_, rfl⟩
  rw [← h0, ← h1', ← h2, ← h3] at HC ⊢
  clear h0 h1' h2 h3
  go_enter Try.func31, Try.ntmps31
  go_wp2_with fail
  generalize hW : ((w.alloc (Obj.cells #[Value.int IntKind.u8 0, Value.int IntKind.u8 0, Value.int IntKind.u8 0, Value.int IntKind.u8 0] 55)).alloc (Obj.cells #[Value.int IntKind.u8 0, Value.int IntKind.u8 0, Value.int IntKind.u8 0, Value.int IntKind.u8 0] 55)) = W
  have Z1 : Bx W.drew w.heap.size 55 #[.int .u8 0, .int .u8 0, .int .u8 0, .int .u8 0] := by
    rw [← hW]; exact (((Bx.new w _ _).on ((Q.refl _).alloc _)).on ((Q.refl _).drew))
  have Z2 : Bx W.drew (w.heap.size + 1) 55 #[.int .u8 0, .int .u8 0, .int .u8 0, .int .u8 0] := by
    have := Bx.new (w.alloc (Obj.cells #[Value.int IntKind.u8 0, Value.int IntKind.u8 0, Value.int IntKind.u8 0, Value.int IntKind.u8 0] 55)) 55 #[.int .u8 0, .int .u8 0, .int .u8 0, .int .u8 0]
    rw [World.size_alloc] at this
    rw [← hW]; exact this.on ((Q.refl _).drew)
  have Q1 : Q w W.drew := by rw [← hW]; exact (((Q.refl w).alloc _).alloc _).drew
  have Z1 := Lib.hid Z1
  have Z2 := Lib.hid Z2
  have Q1 := Lib.hid Q1
  clear hW
  refine wp_region_held_drew (S := fun _ => True) (by kernel_rfl) trivial (fun hHeld => ?_)
  refine tkV 0 ?_
  refine tkV 1 ?_
  refine tkB 2 (.string (b.extract 60 64)) ?_
  refine aR [3] ?_
  refine AllReadyH.cons (o := _) rfl (fun K hK => ?_) AllReadyH.nil
  rw [if_pos (by rfl)]
  refine wp_copy_str _ _ rfl (w.heap.size + 1) (b.extract 60 64) _ rfl rfl Z2.out hx ?_
  intro w5 z2 k5
  refine hK.out _ _ trivial (fun _ => ?_)
  clear hK K
  refine pg ?_
  refine wpAnyH_done (by kernel_rfl) ?_ _
  rw [HC.out] at z2
  have z1 := k5.bx Z1.out (by omega)
  have c0 := z2.cell 0
  have c1 := z2.cell 1
  have c2 := z2.cell 2
  have c3 := z2.cell 3
  have d0 := z1.cell 0
  have d1 := z1.cell 1
  have d2 := z1.cell 2
  have d3 := z1.cell 3
  have f0 := z1.frozen 0
  have f1 := z1.frozen 1
  have f2 := z1.frozen 2
  have f3 := z1.frozen 3
  have ZW := Lib.hid z1
  have q5 := Lib.hid (Kp.q Q1.out k5 (by omega))
  clear z1 z2 k5 hHeld
  go_wp2_with fail
  have zz := (((ZW.out.set 0 (.int .u8 (a0 : Nat))).set 1 (.int .u8 (a1 : Nat))).set 2 (.int .u8 (a2 : Nat))).set 3 (.int .u8 (a3 : Nat))
  have qq := Q.set (k := 3) (Q.set (k := 2) (Q.set (k := 1) (Q.set (k := 0) q5.out (Nat.le_refl _) (.int .u8 (a0 : Nat))) (Nat.le_refl _) (.int .u8 (a1 : Nat))) (Nat.le_refl _) (.int .u8 (a2 : Nat))) (Nat.le_refl _) (.int .u8 (a3 : Nat))
  generalize (((w5.setCell ⟨w.heap.size, 0, none⟩ (.int .u8 (a0 : Nat))).setCell ⟨w.heap.size, 1, none⟩ (.int .u8 (a1 : Nat))).setCell ⟨w.heap.size, 2, none⟩ (.int .u8 (a2 : Nat))).setCell ⟨w.heap.size, 3, none⟩ (.int .u8 (a3 : Nat)) = wz at zz qq ⊢
  have z0 := zz.cell 0
  have z1 := zz.cell 1
  have z2 := zz.cell 2
  have z3 := zz.cell 3
  simp at z0 z1 z2 z3
  refine bodyPost_ret (v := .agg #[.int .u8 (a0 : Nat), .int .u8 (a1 : Nat), .int .u8 (a2 : Nat), .int .u8 (a3 : Nat)]) (by simp [results, Try.results31, go_sem, z0, z1, z2, z3]) rfl ⟨rfl, qq⟩
theorem follow_any (a b c d : Nat) (w : World) (ha : a < 256) (hb : b < 256) : Calls Try.prog 32 #[endV a b c d] w fun e w' => e = .returned (.int .i64 (a + 256 * b : Nat)) ∧ Q w w' := by
  rw [endV]
  have C := Lib.hid fun w => number_any a b w ha hb
  have q0 := Lib.hid ((Q.refl w).alloc (.cells #[.int .u8 a, .int .u8 b, .int .u8 c, .int .u8 d] 55))
  go_enter Try.func32, Try.ntmps32
  go_wp2_with fail
  refine (C.out _).mono ?_
  rintro e x1 ⟨rfl, q1⟩
  go_wp2_with fail
  go_ret
  exact ⟨rfl, q0.out.trans q1.q⟩
theorem torn_any (a b c d : Nat) (w : World) : Calls Try.prog 33 #[endV a b c d] w fun e w' => e = .returned (.bool (!decide (d = 165))) ∧ Q w w' := by
  rw [endV]
  have q0 := Lib.hid ((Q.refl w).alloc (.cells #[.int .u8 a, .int .u8 b, .int .u8 c, .int .u8 d] 55))
  have HV : Hid (((d : Int) != 165) = !decide (d = 165)) := Lib.hid (by
    by_cases h : d = 165
    · subst h; rfl
    · simp [h]; omega)
  go_enter Try.func33, Try.ntmps33
  go_wp2_with fail
  go_ret
  exact ⟨by rw [← HV.out]; rfl, q0.out⟩
theorem conv_bx {w : World} {g : Nat} {l : List UInt8} {n : Nat} {ty : TypeId} (h : Bx w g ty (Lib.byteCells l).toArray) (hn : n = l.length) :
    (convert 45 9 (.slice (some ⟨g, 0, none⟩) n n)).run Try.prog w = .ok (.string (mk l)) w := by
  subst hn
  exact run_convert_bytes_back (P := Try.prog) w 45 9 5 ⟨g, 0, none⟩ l.length l Try.underlying45 Try.underlying5 Try.underlying9 (fun j hj => by
    rw [add_flat, h.cell]
    simp [Lib.byteCells, hj])
theorem foot_any (p f : Nat) (w : World) (hf : f < 65536) : Calls Try.prog 24 #[.int .i64 f, .bool (decide (p = 0))] w fun e w' => e = .returned (.string (mk (footK p f))) ∧ Q w w' := by
  have HF : ∀ k : Int, k = (if p = 0 then 1 else 2) → Hid ((Lib.byteCells (footK p f)).toArray = #[.int .u8 ((f : Int) % 256), .int .u8 ((f : Int) / 256), .int .u8 k, .int .u8 165]) := fun k hk => Lib.hid (by
    rw [footK, Lib.byteCells, List.map_cons, List.map_cons, List.map_cons, List.map_cons, List.map_nil, toU8, toU8, int_mod, int_div f hf, hk]
    split <;> rfl)
  obtain ⟨L, hL⟩ : ∃ L, L = footK p f := ⟨_, rfl⟩
  rw [← hL] at HF ⊢
  have hl : 4 = L.length := by rw [hL]; rfl
  have HL := Lib.hid hl
  clear hL hl
  by_cases h : p = 0
  · have hd : decide (p = 0) = true := by simp [h]
    rw [hd]
    have hcv := conv_bx (l := L) (n := 4) (g := w.heap.size) (Bx.new w 5 _) HL.out
    rw [(HF 1 (by rw [if_pos h])).out] at hcv
    clear HF h hd
    go_enter Try.func24, Try.ntmps24
    go_wp2_with fail
    go_ret
    exact ⟨rfl, (Q.refl w).alloc _⟩
  · have hd : decide (p = 0) = false := by simp [h]
    rw [hd]
    have hcv := conv_bx (l := L) (n := 4) (g := w.heap.size) (Bx.new w 5 _) HL.out
    rw [(HF 2 (by rw [if_neg h])).out] at hcv
    clear HF h hd
    go_enter Try.func24, Try.ntmps24
    go_wp2_with fail
    go_ret
    exact ⟨rfl, (Q.refl w).alloc _⟩
end Go.Proofs.Ytpcanlafbcdmcaa
