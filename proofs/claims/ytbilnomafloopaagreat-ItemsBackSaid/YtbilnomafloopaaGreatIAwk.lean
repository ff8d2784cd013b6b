/-
  Contracts at the inputs of the chapter's examples: the empty depot, its one item, no item.
-/
import Derived.Test.YtbilnomafloopaaGreatIEq
import Derived.Test.YtbilnomafloopaaGreatTake
import Derived.Laws.ResultCell
import Derived.Laws.Externs
import Derived.Lib.Bytealg
namespace Go.Proofs.YtbilnomafloopaaGreat
set_option maxRecDepth 100000
open Go.ChangeShapes Go.WideShapes Go.ChangeAt Go.RowKit
set_option linter.unusedVariables false
set_option linter.unusedSimpArgs false

set_option maxHeartbeats 2000000 in
theorem check0_any (w : World) : Calls Tryz.prog 30 #[.agg #[.int .i64 0, .slice none 0 0]] w fun e w' => e = .returned (.int .i64 0) ∧ Q w w' := by
  have q0 := (Q.refl w).alloc (.cells #[.int .i64 0, .slice none 0 0] 24)
  obtain ⟨W0, hW0⟩ : ∃ z, z = w.alloc (.cells #[.int .i64 0, .slice none 0 0] 24) := ⟨_, rfl⟩
  rw [← hW0] at q0
  go_enter Tryz.func30, Tryz.ntmps30
  go_wp2_with fail
  rw [← hW0]
  clear hW0
  go_loopw [23] (fun I wr => I = .int .i64 0 ∧ Q w wr) (fun _ _ => 0)
  case atStart => exact ⟨rfl, q0⟩
  case round =>
    obtain ⟨rfl, q⟩ := hrel
    go_wp2_with fail
    go_ret
    exact ⟨rfl, q⟩
set_option maxHeartbeats 2000000 in
theorem same0_any (w : World) : Calls Tryz.prog 18 #[.agg #[.int .i64 0, .slice none 0 0], .agg #[.int .i64 0, .slice none 0 0]] w fun e w' => e = .returned (.bool true) ∧ Q w w' := by
  have q0 := ((Q.refl w).alloc (.cells #[.int .i64 0, .slice none 0 0] 24)).alloc (.cells #[.int .i64 0, .slice none 0 0] 24)
  have b0 : ((w.alloc (.cells #[.int .i64 0, .slice none 0 0] 24)).alloc (.cells #[.int .i64 0, .slice none 0 0] 24)).cell? ⟨w.heap.size, 1, none⟩ = some (.slice none 0 0) := by simp
  obtain ⟨W0, hW0⟩ : ∃ z, z = (w.alloc (.cells #[.int .i64 0, .slice none 0 0] 24)).alloc (.cells #[.int .i64 0, .slice none 0 0] 24) := ⟨_, rfl⟩
  rw [← hW0] at q0 b0
  go_enter Tryz.func18, Tryz.ntmps18
  go_wp2_with fail
  rw [← hW0]
  clear hW0
  go_loopw [5] (fun I wr => I = .int .i64 0 ∧ Q w wr ∧ wr.cell? ⟨w.heap.size, 1, none⟩ = some (.slice none 0 0)) (fun _ _ => 0)
  case atStart => exact ⟨rfl, q0, b0⟩
  case round =>
    obtain ⟨rfl, q, b1⟩ := hrel
    clear q0 b0
    go_wp2_with fail
    go_ret
    exact ⟨rfl, q⟩
set_option maxHeartbeats 2000000 in
theorem laid_any (name : ByteArray) (l : List ByteArray) (v : Value) (w : World) (hok : okL l = true) (hs : ∀ s ∈ l, s.size ≤ 5000) (hl : l.length ≤ 1000000) (ht : Txts w w.heap.size v l) :
    Calls Tryz.prog 31 #[.string name, v] w fun e w' => e = .returned (itm ⟨name, mk (lst l)⟩) ∧ Q w w' := by
  have C := Lib.hid (fun (x : World) (q : Q w x) => list_any l v x hl hs (ht.on q))
  rw [lstV_yes hok] at C
  have b0 := Bx.new w 68 #[.string ⟨#[]⟩, .string ⟨#[]⟩]
  have q0 := (Q.refl w).alloc (.cells #[.string ⟨#[]⟩, .string ⟨#[]⟩] 68)
  clear ht
  rw [itm]
  go_enter Tryz.func31, Tryz.ntmps31
  go_wp2_with fail
  refine (C.out _ q0).mono ?_
  rintro e w1 ⟨rfl, q1⟩
  have bb := b0.on q1
  have c0 := bb.cell 0
  have c1 := bb.cell 1
  have f0 := bb.frozen 0
  have f1 := bb.frozen 1
  simp only [List.getElem?_toArray, List.getElem?_cons_zero, List.getElem?_cons_succ] at c0 c1
  have hlt := bb.lt
  clear C b0
  go_wp2_with fail
  have bs := (bb.set 0 (.string name)).set 1 (.string (mk (lst l)))
  have k0 := bs.cell 0
  have k1 := bs.cell 1
  refine bodyPost_ret (v := .agg #[.string name, .string (mk (lst l))]) ?_ rfl ⟨rfl, ?_⟩
  · simp [results, Tryz.results31, go_sem] at k0 k1 ⊢
    simp [k0, k1]
  · exact Q.set (Q.set (q0.trans q1) (Nat.le_refl _) _) (Nat.le_refl _) _
set_option maxHeartbeats 2000000 in
theorem inum_any (s : ByteArray) (w : World) (hs : s.size ≤ 1000000) : Calls Tryz.prog 118 #[.string s] w fun e w' => e = .returned (.int .u64 ((tn s).1 : Nat)) ∧ Q w w' := by
  obtain ⟨n, b, f, h⟩ : ∃ n b f, tn s = (n, b, f) := ⟨_, _, _, rfl⟩
  have C := Lib.hid (takeNum_any s w (by omega) h)
  have hn : (tn s).1 = n := by rw [h]
  rw [hn]
  clear h hn
  go_enter Tryz.func118, Tryz.ntmps118
  go_wp2_with fail
  refine (C.out).mono ?_
  rintro e w1 ⟨rfl, q1⟩
  go_wp2_with fail
  go_ret
  exact ⟨rfl, q1⟩
theorem ibs_run (c : Int) (x : World) : (callFunc 254 #[.string ⟨#[]⟩, .int .u8 c]).run Tryz.prog x = .ok (.value (.int .i64 (-1))) x := by
  rw [run_callFunc_extern Tryz.func254 (by kernel_rfl) (by kernel_rfl) (by kernel_rfl) (e := Extern.BytealgIndexByte.indexByte) (by kernel_rfl), Lib.run_indexByteString]
  rfl
set_option maxHeartbeats 2000000 in
theorem idx0_any (w : World) : Calls Tryz.prog 201 #[.string ⟨#[]⟩, .string ⟨#[10]⟩] w fun e w' => e = .returned (.int .i64 (-1)) ∧ w' = w := by
  have hE := ibs_run
  go_enter Tryz.func201, Tryz.ntmps201
  go_wp2
  go_ret
  exact ⟨rfl, rfl⟩
set_option maxHeartbeats 2000000 in
theorem cutL0_any (w : World) : Calls Tryz.prog 174 #[.string ⟨#[]⟩, .string ⟨#[10]⟩] w fun e w' => e = .returned (.tuple #[.string ⟨#[]⟩, .string ⟨#[]⟩, .bool false]) ∧ w' = w := by
  have C := Lib.hid (idx0_any w)
  go_enter Tryz.func174, Tryz.ntmps174
  go_wp2_with fail
  refine (C.out).mono ?_
  rintro e w1 ⟨rfl, rfl⟩
  go_wp2_with fail
  go_ret3
  exact ⟨rfl, rfl⟩
set_option maxHeartbeats 2000000 in
theorem cut0_any (w : World) : Calls Tryz.prog 117 #[.string ⟨#[]⟩, .string ⟨#[10]⟩] w fun e w' => e = .returned (.tuple #[.string ⟨#[]⟩, .string ⟨#[]⟩, .bool false]) ∧ w' = w := by
  have C := Lib.hid (cutL0_any w)
  go_enter Tryz.func117, Tryz.ntmps117
  go_wp2_with fail
  refine (C.out).mono ?_
  rintro e w1 ⟨rfl, rfl⟩
  go_wp2_with fail
  go_ret3
  exact ⟨rfl, rfl⟩
end Go.Proofs.YtbilnomafloopaaGreat
