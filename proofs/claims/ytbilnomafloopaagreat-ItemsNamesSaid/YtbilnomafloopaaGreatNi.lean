/-
  A bucket's items. The names of a bucket's items tell what they are of. A depot's items have names of their own each. The items of a depot. A depot's items rise once they are sorted. Contract of the statements' Few of an index.
-/
import Derived.Test.YtbilnomafloopaaGreatNh
import Derived.Test.YtbilnomafloopaaGreatNe
import Derived.Test.YtbilnomafloopaaGreatNd
import Derived.Deep.RegionHeld3
namespace Go.Proofs.YtbilnomafloopaaGreat
set_option maxRecDepth 100000
open Go.ChangeShapes Go.WideShapes Go.ChangeAt Go.RowKit
set_option linter.unusedVariables false
set_option linter.unusedSimpArgs false
/-- What an entry, an upload and a bucket may be, that their items may be laid. -/
def tinyE (e : Ent) : Prop := e.key.size ≤ 4000 ∧ e.L.length ≤ 30 ∧ ∀ p ∈ e.L, p.id < 18446744073709551616 ∧ 0 ≤ p.tm ∧ p.tm ≤ 9223372036854775807 ∧ p.data.size ≤ 4000
def tinyU (u : Upl) : Prop := u.key.size ≤ 4000 ∧ u.id < 18446744073709551616 ∧ u.L.length ≤ 30 ∧ ∀ p ∈ u.L, 0 ≤ p.n ∧ p.n ≤ 100000 ∧ p.data.size ≤ 4000
def tinyB (b : Bkt) : Prop := b.name.size ≤ 1000 ∧ 0 ≤ b.st ∧ b.st ≤ 9223372036854775807 ∧ b.last < 18446744073709551616 ∧ b.L.length ≤ 60 ∧ b.U.length ≤ 60 ∧ (∀ e ∈ b.L, tinyE e) ∧ ∀ u ∈ b.U, tinyU u
def itB (b : Bkt) : Itm := ⟨⟨#[98]⟩ ++ b.name, mk (lst [mk (oct b.st.toNat 8), mk (oct b.last 8)])⟩
def bktI (b : Bkt) : List Itm := itB b :: (b.L.flatMap (entI b.name) ++ b.U.flatMap (uplI b.name))
theorem lst_small (l : List ByteArray) (h : ∀ s ∈ l, s.size ≤ 5000) (hl : l.length ≤ 10) : (mk (lst l)).size ≤ maxLen := by
  rw [mk_size, lst, List.length_append, oct_length]
  have h1 := flat_length l h
  have h2 : l.length * 5002 ≤ 10 * 5002 := Nat.mul_le_mul_right _ hl
  unfold maxLen; omega
theorem itV_ok {bk key : ByteArray} {n : Nat} {v : Ver} (hb : bk.size ≤ 1000) (hk : key.size ≤ 4000) (hv : v.data.size ≤ 4000) : okIZ (itV bk key n v) := by
  refine ⟨?_, lst_small _ (fun s hs => ?_) (by simp)⟩
  · show (nmV bk key v.id).size ≤ _
    unfold nmV; simp only [ByteArray.size_append, oct_mk]
    show 1 + bk.size + 1 + key.size + 1 + 8 ≤ _
    unfold maxLen; omega
  · simp only [List.mem_cons, List.not_mem_nil, or_false] at hs
    rcases hs with rfl | rfl | rfl | rfl <;> (try rw [oct_mk]) <;> omega
theorem entI_ok {bk : ByteArray} {e : Ent} (hb : bk.size ≤ 1000) (h : tinyE e) : ∀ x ∈ entI bk e, okIZ x := by
  intro x hx
  obtain ⟨i, hi, rfl⟩ := List.mem_mapIdx.1 hx
  exact itV_ok hb h.1 (h.2.2 _ (List.getElem_mem hi)).2.2.2
theorem itU_ok {bk : ByteArray} {u : Upl} (hb : bk.size ≤ 1000) (h : u.key.size ≤ 4000) : okIZ (itU bk u) := by
  refine ⟨?_, lst_small _ (fun s hs => ?_) (by simp)⟩
  · show ((⟨#[117]⟩ : ByteArray) ++ nmU bk u.id).size ≤ _
    rw [ByteArray.size_append, nmU_size]
    show 1 + (bk.size + 9) ≤ _
    unfold maxLen; omega
  · rw [List.mem_singleton] at hs; rw [hs]; omega
theorem itP_ok {bk : ByteArray} {id : Nat} {p : Prt} (hb : bk.size ≤ 1000) (h : p.data.size ≤ 4000) : okIZ (itP bk id p) := by
  refine ⟨?_, lst_small _ (fun s hs => ?_) (by simp)⟩
  · show ((⟨#[112]⟩ : ByteArray) ++ nmU bk id ++ mk (oct p.n.toNat 8)).size ≤ _
    rw [ByteArray.size_append, ByteArray.size_append, nmU_size, oct_mk]
    show 1 + (bk.size + 9) + 8 ≤ _
    unfold maxLen; omega
  · rw [List.mem_singleton] at hs; rw [hs]; omega
theorem uplI_ok {bk : ByteArray} {u : Upl} (hb : bk.size ≤ 1000) (h : tinyU u) : ∀ x ∈ uplI bk u, okIZ x := by
  intro x hx
  rcases List.mem_cons.1 hx with rfl | hx
  · exact itU_ok hb h.1
  · obtain ⟨p, hp, rfl⟩ := List.mem_map.1 hx
    exact itP_ok hb (h.2.2.2 p hp).2.2
theorem entI_len (bk : ByteArray) (e : Ent) : (entI bk e).length = e.L.length := List.length_mapIdx
theorem uplI_len (bk : ByteArray) (u : Upl) : (uplI bk u).length = u.L.length + 1 := by simp [uplI]
theorem flat_le {α β : Type} (f : α → List β) (n : Nat) (l : List α) (h : ∀ x ∈ l, (f x).length ≤ n) : (l.flatMap f).length ≤ l.length * n := by
  induction l with
  | nil => simp
  | cons x l ih =>
    rw [List.flatMap_cons, List.length_append, List.length_cons, Nat.succ_mul]
    have h1 := h x (List.mem_cons_self ..)
    have h2 := ih fun y hy => h y (List.mem_cons_of_mem _ hy)
    omega
theorem flat_take {α β : Type} (f : α → List β) (l : List α) (i : Nat) (h : i < l.length) : (l.take (i + 1)).flatMap f = (l.take i).flatMap f ++ f l[i] := by
  rw [List.take_succ_eq_append_getElem h, List.flatMap_append, List.flatMap_cons, List.flatMap_nil, List.append_nil]
theorem txts_two (w : World) (a b : ByteArray) : Txts (w.alloc (.cells #[.string a, .string b] 9)) (w.alloc (.cells #[.string a, .string b] 9)).heap.size (.slice (some ⟨w.heap.size, 0, none⟩) 2 2) [a, b] := by
  refine ⟨some ⟨w.heap.size, 0, none⟩, 2, rfl, fun k hk => ⟨⟨w.heap.size, 0, none⟩, rfl, by simp, ?_⟩⟩
  have h4 : k < 2 := by simpa using hk
  have hc : k = 0 ∨ k = 1 := by omega
  rcases hc with rfl | rfl <;> simp [Addr.add]
set_option maxHeartbeats 8000000 in
theorem bktItems_any (b : Bkt) (lv uv : Value) (w : World) (h : tinyB b) (h1 : Ents w w.heap.size lv b.L) (h2 : Upls w w.heap.size uv b.U) :
    Calls Tryz.prog 33 #[bkt b lv uv] w fun e w' => ∃ v', e = .returned v' ∧ OwnI w.heap.size w' v' (bktI b) ∧ Q w w' := by
  obtain ⟨A, c, rfl, -, -, -, hcE⟩ := h1
  obtain ⟨A2, c2, rfl, -, -, -, hcU⟩ := h2
  obtain ⟨hb, hs1, hs2, hla, hL, hU, hE, hUU⟩ := h
  have HC := Lib.hid hcE
  have HD := Lib.hid hcU
  have HE := Lib.hid hE
  have HU := Lib.hid hUU
  have hyn : ((b.st.toNat : Nat) : Int) = b.st := Int.toNat_of_nonneg hs1
  have C1 := Lib.hid (fun x => num_any b.st.toNat x (by omega))
  have C2 := Lib.hid (fun x => num_any b.last x hla)
  have CL := Lib.hid (fun (x : World) (v : Value) (h : Txts x x.heap.size v [mk (oct b.st.toNat 8), mk (oct b.last 8)]) => laid_any (⟨#[98]⟩ ++ b.name) [mk (oct b.st.toNat 8), mk (oct b.last 8)] v x (okL_iffZ.2 ⟨by simp, fun s hs => by simp only [List.mem_cons, List.not_mem_nil, or_false] at hs; rcases hs with rfl | rfl <;> rw [oct_mk] <;> omega⟩) (fun s hs => by simp only [List.mem_cons, List.not_mem_nil, or_false] at hs; rcases hs with rfl | rfl <;> rw [oct_mk] <;> omega) (by simp) h)
  have HIP : Hid (itB b = ⟨⟨#[98]⟩ ++ b.name, mk (lst [mk (oct b.st.toNat 8), mk (oct b.last 8)])⟩) := Lib.hid rfl
  rw [itm] at CL
  simp only at CL
  rw [hyn] at C1
  obtain ⟨X1, hX1⟩ : ∃ z, z = mk (oct b.st.toNat 8) := ⟨_, rfl⟩
  obtain ⟨X2, hX2⟩ : ∃ z, z = mk (oct b.last 8) := ⟨_, rfl⟩
  rw [← hX1] at C1 CL HIP
  rw [← hX2] at C2 CL HIP
  obtain ⟨VJ, hVJ⟩ : ∃ z, z = mk (lst [X1, X2]) := ⟨_, rfl⟩
  rw [← hVJ] at CL HIP
  clear hX1 hX2 hVJ hcE hcU hE hUU
  have hwr : IntKind.u64.wrap b.st = b.st := by rw [IntKind.wrap_u64]; omega
  have n0 := Bx.new w 60 #[.string b.name, .int .i64 b.st, .slice A b.L.length c, .slice A2 b.U.length c2, .int .u64 (b.last : Nat)]
  have KS : Hid (∀ x, Q (w.alloc (.cells #[.string b.name, .int .i64 b.st, .slice A b.L.length c, .slice A2 b.U.length c2, .int .u64 (b.last : Nat)] 60)) x → (fun w' => w'.cell? ⟨w.heap.size, 0, none⟩ = some (.string b.name) ∧ w'.cell? ⟨w.heap.size, 1, none⟩ = some (.int .i64 b.st) ∧ w'.cell? ⟨w.heap.size, 4, none⟩ = some (.int .u64 (b.last : Nat)) ∧ Bx w' w.heap.size 60 #[.string b.name, .int .i64 b.st, .slice A b.L.length c, .slice A2 b.U.length c2, .int .u64 (b.last : Nat)] ∧ Q w w') x) := Lib.hid (by
    intro x q
    have n := n0.on q
    have d0 := n.cell 0
    have d1 := n.cell 1
    have d4 := n.cell 4
    simp only [List.getElem?_toArray, List.getElem?_cons_zero, List.getElem?_cons_succ] at d0 d1 d4
    exact ⟨d0, d1, d4, n, ((Q.refl w).alloc _).trans q⟩)
  clear n0
  rw [bkt]
  go_enter Tryz.func33, Tryz.ntmps33
  go_upto_region 1 with fail
  obtain ⟨WB, hWB⟩ : ∃ z, z = w.alloc (.cells #[.string b.name, .int .i64 b.st, .slice A b.L.length c, .slice A2 b.U.length c2, .int .u64 (b.last : Nat)] 60) := ⟨_, rfl⟩
  rw [← hWB] at KS
  rw [← hWB]
  clear hWB
  refine wp_region_held_drew (S := (fun w' => w'.cell? ⟨w.heap.size, 0, none⟩ = some (.string b.name) ∧ w'.cell? ⟨w.heap.size, 1, none⟩ = some (.int .i64 b.st) ∧ w'.cell? ⟨w.heap.size, 4, none⟩ = some (.int .u64 (b.last : Nat)) ∧ Bx w' w.heap.size 60 #[.string b.name, .int .i64 b.st, .slice A b.L.length c, .slice A2 b.U.length c2, .int .u64 (b.last : Nat)] ∧ Q w w')) (by kernel_rfl) (KS.out _ (Q.refl WB).drew) (fun hHeld => ?_)
  refine tkV 0 ?_
  refine tkV 1 ?_
  refine tkV (hv := by (intro wx hSw; (try dsimp only at hSw); go_simp; rw [if_neg (by omega)])) 2 ?_
  refine tkV 3 ?_
  refine tkV 4 ?_
  refine tkV (v := .int .u64 b.st) 5 ?_
  refine tkV 7 ?_
  refine tkV 8 ?_
  refine aR [6] ?_
  refine AllReadyH.cons (o := _) rfl (fun K hK => ?_) AllReadyH.nil
  go_simp
  go_at_call 32
  refine (C1.out _).mono ?_
  rintro e w1 ⟨rfl, q1⟩
  have r1 := (Q.refl WB).drew.trans q1
  refine hK.out _ _ (KS.out _ r1) (fun hHeld1 => ?_)
  clear hK K
  refine pg ?_
  refine aR [9] ?_
  refine AllReadyH.cons (o := _) rfl (fun K hK => ?_) AllReadyH.nil
  go_simp
  go_at_call 32
  refine (C2.out _).mono ?_
  rintro e w2 ⟨rfl, q2⟩
  have r2 := r1.trans q2
  refine hK.out _ _ (KS.out _ r2) (fun hHeld2 => ?_)
  clear hK K
  refine pg ?_
  refine aR [10] ?_
  refine AllReadyH.cons (o := _) rfl (fun K hK => ?_) AllReadyH.nil
  go_simp
  have tx := txts_two w2 X1 X2
  have r6 := r2.alloc (.cells #[.string X1, .string X2] 9)
  refine hK.out _ _ (KS.out _ r6) (fun hHeld6 => ?_)
  clear hK K
  refine pg ?_
  refine aR [11] ?_
  refine AllReadyH.cons (o := _) rfl (fun K hK => ?_) AllReadyH.nil
  go_simp
  go_at_call 31
  refine (CL.out _ _ tx).mono ?_
  rintro e w7 ⟨rfl, q7⟩
  have r7 := r6.trans q7
  refine hK.out _ _ (KS.out _ r7) (fun hHeld7 => ?_)
  clear hK K
  refine pg ?_
  refine aR [12] ?_
  refine AllReadyH.cons (o := _) rfl (fun K hK => ?_) AllReadyH.nil
  go_simp
  have r8 := r7.alloc (.cells #[.string (⟨#[98]⟩ ++ b.name), .string VJ] 68)
  have S8 := KS.out _ r8
  refine hK.out _ _ S8 (fun hHeld8 => ?_)
  clear hK K
  refine pg ?_
  refine tkV 13 ?_
  refine wpAnyH_done (by kernel_rfl) ?_ _
  have hw7 := r7.size
  have ow0 := own_one w7 (w.heap.size + 1) (itB b) (by have := (KS.out _ r7).2.2.2.1.lt; omega)
  rw [HIP.out] at ow0
  have ow : OwnI (w.heap.size + 1) (w7.alloc (.cells #[.string (⟨#[98]⟩ ++ b.name), .string VJ] 68)) (.slice (some ⟨w7.heap.size, 0, none⟩) 1 1) [⟨⟨#[98]⟩ ++ b.name, VJ⟩] := ow0
  rw [← HIP.out] at ow
  obtain ⟨-, -, -, bx, qw⟩ := S8
  obtain ⟨g, hg⟩ : ∃ z, z = w7.heap.size := ⟨_, rfl⟩
  obtain ⟨y1, hy1⟩ : ∃ z, z = w7.alloc (.cells #[.string (⟨#[98]⟩ ++ b.name), .string VJ] 68) := ⟨_, rfl⟩
  rw [← hy1] at ow bx qw
  rw [← hg] at ow
  rw [← hy1, ← hg]
  clear hHeld hHeld1 hHeld2 hHeld6 hHeld7 hHeld8 hy1 hg ow0 hw7 r8 r7 r6 r2 r1 q7 q2 q1 tx KS C1 C2 CL
  have cE := bx.cell 2
  simp only [List.getElem?_toArray, List.getElem?_cons_zero, List.getElem?_cons_succ] at cE
  have HO := Lib.hid ow
  clear ow
  go_wp2_with fail
  go_loopw [3, 24] (fun O I wr => ∃ i : Nat, i ≤ b.L.length ∧ I = .int .i64 i ∧ OwnI (w.heap.size + 1) wr O (itB b :: (b.L.take i).flatMap (entI b.name)) ∧ Bx wr w.heap.size 60 #[.string b.name, .int .i64 b.st, .slice A b.L.length c, .slice A2 b.U.length c2, .int .u64 (b.last : Nat)] ∧ Q w wr) (fun _ I _ => b.L.length - (intOf I).toNat)
  case atStart => exact ⟨0, Nat.zero_le _, rfl, HO.out, bx, qw⟩
  case round =>
    obtain ⟨i, hil, rfl, hown, bx, hbel⟩ := hrel
    clear HO cE qw
    by_cases hlt : i < b.L.length
    · obtain ⟨a, hAa, ha, hat⟩ := HC.out i hlt
      subst hAa
      have hy0 := HE.out _ (List.getElem_mem hlt)
      have HFT := Lib.hid (flat_take (entI b.name) b.L i hlt)
      have hlen := flat_le (entI b.name) 31 (b.L.take i) (fun x hx => by have := HE.out x (List.mem_of_mem_take hx); rw [entI_len]; have := this.2.1; omega)
      rw [List.length_take, Nat.min_eq_left (Nat.le_of_lt hlt)] at hlen
      obtain ⟨y, hy⟩ : ∃ y, y = b.L[i] := ⟨_, rfl⟩
      rw [← hy] at hat hy0 HFT
      clear hy
      have hilt : (i : Int) < (b.L.length : Int) := by omega
      obtain ⟨hc0, uu, hc1, hv0⟩ := hat
      have c0 := (hbel.cell (by rw [add_block]; exact ha)).trans hc0
      have c1 := (hbel.cell (p := ⟨(a.add (i * 2)).block, (a.add (i * 2)).off + 1, none⟩) (by show (a.add (i * 2)).block < _; rw [add_block]; exact ha)).trans hc1
      obtain ⟨A9, c9, e9, -⟩ := id hv0
      subst e9
      have CV := Lib.hid (fun (x : World) (q : Q w x) => verItems_any b.name y (.slice A9 y.L.length c9) x hb hy0.1 (by have := hy0.2.1; omega) hy0.2.2 (hv0.on q))
      have qa := hbel.alloc (.cells #[.string y.key, .slice A9 y.L.length c9] 63)
      have qa0 := (Q.refl wr).alloc (.cells #[.string y.key, .slice A9 y.L.length c9] 63)
      have bxa := bx.alloc (.cells #[.string y.key, .slice A9 y.L.length c9] 63)
      have e0 := bxa.cell 0
      simp only [List.getElem?_toArray, List.getElem?_cons_zero, List.getElem?_cons_succ] at e0
      have EOK := Lib.hid (entI_ok hb hy0)
      have hel : (entI b.name y).length ≤ 30 := by rw [entI_len]; exact hy0.2.1
      clear hc0 hc1 hv0 hy0
      go_wp2_with fail
      refine (CV.out _ qa).mono ?_
      rintro e w5 ⟨v5, rfl, o5, q5⟩
      have rd := OwnI.read o5 EOK.out
      obtain ⟨A5, c5, e5, -⟩ := id rd
      subst e5
      have o0 := hown.on (qa0.trans q5)
      have q6 := qa.trans q5
      have bx6 := bxa.on q5
      have hz6 := bx6.lt
      clear o5 CV EOK e0 c0 c1
      go_wp2_with (at_builtin; refine wpList_append_itm _ rfl _ _ 26 Tryz.underlying26 rfl (w.heap.size + 1) w5.heap.size _ _ _ rfl rfl o0 rd ?hb ?hl ?_; (case hb => omega); (case hl => simp only [List.length_cons]; omega); intro v8 w8 o8 g8)
      rw [List.cons_append, ← HFT.out] at o8
      have bx8 := bx6.same (g8.block w.heap.size hz6 (fun e => by have := (World.ownsRow.lt o0 _ e.symm).1; omega))
      have q8 : Q w w8 := Below.grown q6 g8 q6.size (fun k hk => by have := (World.ownsRow.lt o0 k hk).1; omega)
      go_roundw
      case rel => exact ⟨i + 1, by omega, by go_num, o8, bx8, q8⟩
      case measure => simp [intOf]; omega
    · have h2 : ¬ (i : Int) < (b.L.length : Int) := by omega
      rw [List.take_of_length_le (by omega)] at hown
      have cU := bx.cell 3
      simp only [List.getElem?_toArray, List.getElem?_cons_zero, List.getElem?_cons_succ] at cU
      have hn1 := flat_le (entI b.name) 31 b.L (fun x hx => by have := HE.out x hx; rw [entI_len]; have := this.2.1; omega)
      have hfe : b.L.flatMap (entI b.name) = b.L.flatMap (entI b.name) ++ (b.U.take 0).flatMap (uplI b.name) := by simp
      rw [hfe] at hown
      have HO := Lib.hid hown
      have HB := Lib.hid bx
      have HQ := Lib.hid hbel
      obtain ⟨EL, hEL⟩ : ∃ z, z = b.L.flatMap (entI b.name) := ⟨_, rfl⟩
      have HEL := Lib.hid hEL
      rw [← hEL] at HO hn1
      clear hown bx hbel hfe HC HE hEL
      go_wp2_with fail
      go_loopw [3, 38] (fun O I wr => ∃ i : Nat, i ≤ b.U.length ∧ I = .int .i64 i ∧ OwnI (w.heap.size + 1) wr O (itB b :: (EL ++ (b.U.take i).flatMap (uplI b.name))) ∧ Bx wr w.heap.size 60 #[.string b.name, .int .i64 b.st, .slice A b.L.length c, .slice A2 b.U.length c2, .int .u64 (b.last : Nat)] ∧ Q w wr) (fun _ I _ => b.U.length - (intOf I).toNat)
      case atStart => exact ⟨0, Nat.zero_le _, rfl, HO.out, HB.out, HQ.out⟩
      case round =>
        clear HO HB HQ cU h2
        obtain ⟨i, hil, rfl, hown, bx, hbel⟩ := hrel
        by_cases hlt : i < b.U.length
        · obtain ⟨a, hAa, ha, hat⟩ := HD.out i hlt
          subst hAa
          have hy0 := HU.out _ (List.getElem_mem hlt)
          have HFT := Lib.hid (flat_take (uplI b.name) b.U i hlt)
          have hlen := flat_le (uplI b.name) 31 (b.U.take i) (fun x hx => by have := HU.out x (List.mem_of_mem_take hx); rw [uplI_len]; have := this.2.2.1; omega)
          rw [List.length_take, Nat.min_eq_left (Nat.le_of_lt hlt)] at hlen
          obtain ⟨y, hy⟩ : ∃ y, y = b.U[i] := ⟨_, rfl⟩
          rw [← hy] at hat hy0 HFT
          clear hy
          have hilt : (i : Int) < (b.U.length : Int) := by omega
          obtain ⟨hcz, hc0, uu, hc1, hv0⟩ := hat
          have cz := (hbel.cell (by rw [add_block]; exact ha)).trans hcz
          have c0 := (hbel.cell (p := ⟨(a.add (i * 3)).block, (a.add (i * 3)).off + 1, none⟩) (by show (a.add (i * 3)).block < _; rw [add_block]; exact ha)).trans hc0
          have c1 := (hbel.cell (p := ⟨(a.add (i * 3)).block, (a.add (i * 3)).off + 2, none⟩) (by show (a.add (i * 3)).block < _; rw [add_block]; exact ha)).trans hc1
          obtain ⟨A9, c9, e9, -⟩ := id hv0
          subst e9
          have CV := Lib.hid (fun (x : World) (q : Q w x) => uplItems_any b.name y (.slice A9 y.L.length c9) x hb hy0.1 hy0.2.1 (by have := hy0.2.2.1; omega) hy0.2.2.2 (hv0.on q))
          have qa := hbel.alloc (.cells #[.int .u64 (y.id : Nat), .string y.key, .slice A9 y.L.length c9] 66)
          have qa0 := (Q.refl wr).alloc (.cells #[.int .u64 (y.id : Nat), .string y.key, .slice A9 y.L.length c9] 66)
          have bxa := bx.alloc (.cells #[.int .u64 (y.id : Nat), .string y.key, .slice A9 y.L.length c9] 66)
          have e0 := bxa.cell 0
          simp only [List.getElem?_toArray, List.getElem?_cons_zero, List.getElem?_cons_succ] at e0
          have EOK := Lib.hid (uplI_ok hb hy0)
          have hel : (uplI b.name y).length ≤ 31 := by rw [uplI_len]; have := hy0.2.2.1; omega
          clear hcz hc0 hc1 hv0 hy0
          go_wp2_with fail
          refine (CV.out _ qa).mono ?_
          rintro e w5 ⟨v5, rfl, o5, q5⟩
          have rd := OwnI.read o5 EOK.out
          obtain ⟨A5, c5, e5, -⟩ := id rd
          subst e5
          have o0 := hown.on (qa0.trans q5)
          have q6 := qa.trans q5
          have bx6 := bxa.on q5
          have hz6 := bx6.lt
          clear o5 CV EOK e0 c0 c1 cz
          go_wp2_with (at_builtin; refine wpList_append_itm _ rfl _ _ 26 Tryz.underlying26 rfl (w.heap.size + 1) w5.heap.size _ _ _ rfl rfl o0 rd ?hb ?hl ?_; (case hb => omega); (case hl => simp only [List.length_cons, List.length_append]; omega); intro v8 w8 o8 g8)
          rw [List.cons_append, List.append_assoc, ← HFT.out] at o8
          have bx8 := bx6.same (g8.block w.heap.size hz6 (fun e => by have := (World.ownsRow.lt o0 _ e.symm).1; omega))
          have q8 : Q w w8 := Below.grown q6 g8 q6.size (fun k hk => by have := (World.ownsRow.lt o0 k hk).1; omega)
          go_roundw
          case rel => exact ⟨i + 1, by omega, by go_num, o8, bx8, q8⟩
          case measure => simp [intOf]; omega
        · have h3 : ¬ (i : Int) < (b.U.length : Int) := by omega
          go_wp2_with fail
          go_ret
          have hfin : OwnI (w.heap.size + 1) wr u3 (bktI b) := by rw [List.take_of_length_le (by omega), HEL.out] at hown; exact hown
          exact ⟨_, rfl, OwnI.low hfin (by omega), hbel⟩
end Go.Proofs.YtbilnomafloopaaGreat

namespace Go.Proofs.YtbilnomafloopaaGreat
set_option maxRecDepth 100000
open Go.ChangeShapes Go.WideShapes Go.ChangeAt Go.RowKit
set_option linter.unusedVariables false
set_option linter.unusedSimpArgs false
/-- No line's end in it. -/
def noNl (s : ByteArray) : Prop := (10 : UInt8) ∉ bl s
theorem cut_nl {a c x y : List UInt8} (ha : (10 : UInt8) ∉ a) (hc : (10 : UInt8) ∉ c) (h : a ++ 10 :: x = c ++ 10 :: y) : a = c ∧ x = y := by
  induction a generalizing c with
  | nil =>
    cases c with
    | nil => simp only [List.nil_append, List.cons.injEq, true_and] at h; exact ⟨rfl, h⟩
    | cons d c =>
      simp only [List.nil_append, List.cons_append, List.cons.injEq] at h
      exact absurd (h.1 ▸ List.mem_cons_self .. : (10 : UInt8) ∈ d :: c) hc
  | cons b a ih =>
    cases c with
    | nil =>
      simp only [List.nil_append, List.cons_append, List.cons.injEq] at h
      exact absurd (h.1 ▸ List.mem_cons_self .. : (10 : UInt8) ∈ b :: a) ha
    | cons d c =>
      simp only [List.cons_append, List.cons.injEq] at h
      obtain ⟨rfl, h⟩ := h
      obtain ⟨rfl, rfl⟩ := ih (fun k => ha (List.mem_cons_of_mem _ k)) (fun k => hc (List.mem_cons_of_mem _ k)) h
      exact ⟨rfl, rfl⟩
theorem bl_nmU (bk : ByteArray) (id : Nat) : bl (nmU bk id) = bl bk ++ 10 :: oct id 8 := by
  rw [nmU, bl_append, bl_append, bl_mk, List.append_assoc]; rfl
theorem bl_nmV (bk key : ByteArray) (id : Nat) : bl (nmV bk key id) = 118 :: (bl bk ++ 10 :: (bl key ++ 10 :: oct id 8)) := by
  rw [nmV]; simp only [bl_append, bl_mk, List.append_assoc]; rfl
theorem bl_itU (bk : ByteArray) (u : Upl) : bl (itU bk u).n = 117 :: (bl bk ++ 10 :: oct u.id 8) := by
  show bl ((⟨#[117]⟩ : ByteArray) ++ nmU bk u.id) = _
  rw [bl_append, bl_nmU]; rfl
theorem bl_itP (bk : ByteArray) (id : Nat) (p : Prt) : bl (itP bk id p).n = 112 :: (bl bk ++ 10 :: (oct id 8 ++ oct p.n.toNat 8)) := by
  show bl ((⟨#[112]⟩ : ByteArray) ++ nmU bk id ++ mk (oct p.n.toNat 8)) = _
  rw [bl_append, bl_append, bl_nmU, bl_mk, List.append_assoc, List.append_assoc]; rfl
theorem bl_itB (b : Bkt) : bl (itB b).n = 98 :: bl b.name := by
  show bl ((⟨#[98]⟩ : ByteArray) ++ b.name) = _
  rw [bl_append]; rfl
theorem p64 : (256 : Nat) ^ 8 = 18446744073709551616 := by decide
theorem nmV_inj {bk bk' key key' : ByteArray} {id id' : Nat} (h1 : noNl bk) (h2 : noNl bk') (h3 : noNl key) (h4 : noNl key') (h5 : id < 18446744073709551616) (h6 : id' < 18446744073709551616) (h : nmV bk key id = nmV bk' key' id') : bk = bk' ∧ key = key' ∧ id = id' := by
  have k := congrArg bl h
  rw [bl_nmV, bl_nmV] at k
  obtain ⟨e1, k2⟩ := cut_nl h1 h2 (List.cons.inj k).2
  obtain ⟨e2, k3⟩ := cut_nl h3 h4 k2
  exact ⟨bl_inj e1, bl_inj e2, oct_inj (by rw [p64]; exact h5) (by rw [p64]; exact h6) k3⟩
theorem itU_inj {bk bk' : ByteArray} {u u' : Upl} (h1 : noNl bk) (h2 : noNl bk') (h5 : u.id < 18446744073709551616) (h6 : u'.id < 18446744073709551616) (h : (itU bk u).n = (itU bk' u').n) : bk = bk' ∧ u.id = u'.id := by
  have k := congrArg bl h
  rw [bl_itU, bl_itU] at k
  obtain ⟨e1, k2⟩ := cut_nl h1 h2 (List.cons.inj k).2
  exact ⟨bl_inj e1, oct_inj (by rw [p64]; exact h5) (by rw [p64]; exact h6) k2⟩
theorem itP_inj {bk bk' : ByteArray} {id id' : Nat} {p p' : Prt} (h1 : noNl bk) (h2 : noNl bk') (h5 : id < 18446744073709551616) (h6 : id' < 18446744073709551616) (h7 : 0 ≤ p.n ∧ p.n ≤ 100000) (h8 : 0 ≤ p'.n ∧ p'.n ≤ 100000) (h : (itP bk id p).n = (itP bk' id' p').n) : bk = bk' ∧ id = id' ∧ p.n = p'.n := by
  have k := congrArg bl h
  rw [bl_itP, bl_itP] at k
  obtain ⟨e1, k2⟩ := cut_nl h1 h2 (List.cons.inj k).2
  obtain ⟨e2, e3⟩ := List.append_inj k2 (by rw [oct_length, oct_length])
  have e4 := oct_inj (by rw [p64]; omega) (by rw [p64]; omega) e3
  exact ⟨bl_inj e1, oct_inj (by rw [p64]; exact h5) (by rw [p64]; exact h6) e2, by omega⟩
end Go.Proofs.YtbilnomafloopaaGreat

namespace Go.Proofs.YtbilnomafloopaaGreat
set_option maxRecDepth 100000
open Go.ChangeShapes Go.WideShapes Go.ChangeAt Go.RowKit
set_option linter.unusedVariables false
set_option linter.unusedSimpArgs false
/-- A bucket whose name and keys hold no line's end. -/
def nlB (b : Bkt) : Prop := noNl b.name ∧ ∀ e ∈ b.L, noNl e.key
/-- A bucket whose keys, versions, uploads and parts are one of a kind each. -/
def oneB (b : Bkt) : Prop := b.L.Pairwise (fun e f => e.key ≠ f.key) ∧ (∀ e ∈ b.L, e.L.Pairwise fun v y => v.id ≠ y.id) ∧ b.U.Pairwise (fun u y => u.id ≠ y.id) ∧ ∀ u ∈ b.U, u.L.Pairwise fun p y => p.n ≠ y.n
theorem entI_mem {bk : ByteArray} {e : Ent} {x : Itm} (h : x ∈ entI bk e) : ∃ v ∈ e.L, x.n = nmV bk e.key v.id := by
  obtain ⟨i, hi, rfl⟩ := List.mem_mapIdx.1 h
  exact ⟨_, List.getElem_mem hi, rfl⟩
theorem uplI_mem {bk : ByteArray} {u : Upl} {x : Itm} (h : x ∈ uplI bk u) : x = itU bk u ∨ ∃ p ∈ u.L, x = itP bk u.id p := by
  rcases List.mem_cons.1 h with rfl | h
  · exact .inl rfl
  · obtain ⟨p, hp, rfl⟩ := List.mem_map.1 h; exact .inr ⟨p, hp, rfl⟩
/-- What a bucket's item is of. -/
def ofB (b : Bkt) (x : Itm) : Prop :=
  x = itB b ∨ (∃ e ∈ b.L, ∃ v ∈ e.L, x.n = nmV b.name e.key v.id) ∨ (∃ u ∈ b.U, x = itU b.name u) ∨ ∃ u ∈ b.U, ∃ p ∈ u.L, x = itP b.name u.id p
theorem bktI_mem {b : Bkt} {x : Itm} (h : x ∈ bktI b) : ofB b x := by
  rcases List.mem_cons.1 h with rfl | h
  · exact .inl rfl
  rcases List.mem_append.1 h with h | h
  · obtain ⟨e, he, hx⟩ := List.mem_flatMap.1 h
    obtain ⟨v, hv, hn⟩ := entI_mem hx
    exact .inr (.inl ⟨e, he, v, hv, hn⟩)
  · obtain ⟨u, hu, hx⟩ := List.mem_flatMap.1 h
    rcases uplI_mem hx with rfl | ⟨p, hp, rfl⟩
    · exact .inr (.inr (.inl ⟨u, hu, rfl⟩))
    · exact .inr (.inr (.inr ⟨u, hu, p, hp, rfl⟩))
/-- The first octet of an item's name. -/
def kd (x : Itm) : Option UInt8 := (bl x.n).head?
theorem kd_B (b : Bkt) : kd (itB b) = some 98 := by rw [kd, bl_itB]; rfl
theorem kd_V {x : Itm} {bk key : ByteArray} {id : Nat} (h : x.n = nmV bk key id) : kd x = some 118 := by rw [kd, h, bl_nmV]; rfl
theorem kd_U (bk : ByteArray) (u : Upl) : kd (itU bk u) = some 117 := by rw [kd, bl_itU]; rfl
theorem kd_P (bk : ByteArray) (id : Nat) (p : Prt) : kd (itP bk id p) = some 112 := by rw [kd, bl_itP]; rfl
theorem kd_eq {x y : Itm} (h : x.n = y.n) : kd x = kd y := by rw [kd, kd, h]
theorem bktI_apart {b c : Bkt} (hb : tinyB b) (hc : tinyB c) (nb : nlB b) (nc : nlB c) {x y : Itm} (hx : ofB b x) (hy : ofB c y) (h : x.n = y.n) : b.name = c.name := by
  have k := kd_eq h
  obtain ⟨-, -, -, -, -, -, hE, hU⟩ := hb
  obtain ⟨-, -, -, -, -, -, hE', hU'⟩ := hc
  rcases hx with rfl | ⟨e, he, v, hv, hn⟩ | ⟨u, hu, rfl⟩ | ⟨u, hu, p, hp, rfl⟩ <;> rcases hy with rfl | ⟨e', he', v', hv', hn'⟩ | ⟨u', hu', rfl⟩ | ⟨u', hu', p', hp', rfl⟩ <;> (try rw [kd_B] at k) <;> (try rw [kd_B] at k) <;> (try rw [kd_V hn] at k) <;> (try rw [kd_V hn'] at k) <;> (try rw [kd_U] at k) <;> (try rw [kd_U] at k) <;> (try rw [kd_P] at k) <;> (try rw [kd_P] at k) <;> first
    | (exact absurd k (by decide))
    | skip
  · have q := congrArg bl h
    rw [bl_itB, bl_itB] at q
    exact bl_inj (List.cons.inj q).2
  · rw [hn, hn'] at h
    exact (nmV_inj nb.1 nc.1 (nb.2 e he) (nc.2 e' he') ((hE e he).2.2 v hv).1 ((hE' e' he').2.2 v' hv').1 h).1
  · exact (itU_inj nb.1 nc.1 (hU u hu).2.1 (hU' u' hu').2.1 h).1
  · exact (itP_inj nb.1 nc.1 (hU u hu).2.1 (hU' u' hu').2.1 ⟨((hU u hu).2.2.2 p hp).1, ((hU u hu).2.2.2 p hp).2.1⟩ ⟨((hU' u' hu').2.2.2 p' hp').1, ((hU' u' hu').2.2.2 p' hp').2.1⟩ h).1
theorem entI_get (bk : ByteArray) (e : Ent) (i : Nat) (h : i < (entI bk e).length) : (entI bk e)[i] = itV bk e.key (e.L.length - 1 - i) (e.L[i]'(by rw [entI_len] at h; exact h)) := List.getElem_mapIdx ..
theorem entI_pair {bk : ByteArray} {e : Ent} (nk : noNl bk) (ne : noNl e.key) (he : tinyE e) (h : e.L.Pairwise fun v y => v.id ≠ y.id) : (entI bk e).Pairwise fun x y => x.n ≠ y.n := by
  rw [List.pairwise_iff_getElem] at h ⊢
  intro i j hi hj hij q
  rw [entI_get, entI_get] at q
  have hi2 : i < e.L.length := by rw [entI_len] at hi; exact hi
  have hj2 : j < e.L.length := by rw [entI_len] at hj; exact hj
  exact h i j hi2 hj2 hij (nmV_inj nk nk ne ne (he.2.2 _ (List.getElem_mem hi2)).1 (he.2.2 _ (List.getElem_mem hj2)).1 q).2.2
theorem uplI_pair {bk : ByteArray} {u : Upl} (nk : noNl bk) (hu : tinyU u) (h : u.L.Pairwise fun p y => p.n ≠ y.n) : (uplI bk u).Pairwise fun x y => x.n ≠ y.n := by
  refine List.pairwise_cons.2 ⟨fun y hy q => ?_, ?_⟩
  · obtain ⟨p, hp, rfl⟩ := List.mem_map.1 hy
    have k := kd_eq q
    rw [kd_U, kd_P] at k
    exact absurd k (by decide)
  · rw [List.pairwise_map]
    refine List.Pairwise.imp_of_mem (fun {a c} ha hc n q => ?_) h
    have ka := hu.2.2.2 a ha
    have kc := hu.2.2.2 c hc
    exact n (itP_inj nk nk hu.2.1 hu.2.1 ⟨ka.1, ka.2.1⟩ ⟨kc.1, kc.2.1⟩ q).2.2
theorem bktI_pair {b : Bkt} (hb : tinyB b) (nb : nlB b) (h : oneB b) : (bktI b).Pairwise fun x y => x.n ≠ y.n := by
  obtain ⟨-, -, -, -, -, -, hE, hU⟩ := hb
  refine List.pairwise_cons.2 ⟨fun y hy q => ?_, List.pairwise_append.2 ⟨List.pairwise_flatMap.2 ⟨fun e he => entI_pair nb.1 (nb.2 e he) (hE e he) (h.2.1 e he), ?_⟩, List.pairwise_flatMap.2 ⟨fun u hu => uplI_pair nb.1 (hU u hu) (h.2.2.2 u hu), ?_⟩, fun x hx y hy q => ?_⟩⟩
  · have k := kd_eq q
    rw [kd_B] at k
    rcases List.mem_append.1 hy with hy | hy
    · obtain ⟨e, he, hx⟩ := List.mem_flatMap.1 hy
      obtain ⟨v, hv, hn⟩ := entI_mem hx
      rw [kd_V hn] at k; exact absurd k (by decide)
    · obtain ⟨u, hu, hx⟩ := List.mem_flatMap.1 hy
      rcases uplI_mem hx with rfl | ⟨p, hp, rfl⟩
      · rw [kd_U] at k; exact absurd k (by decide)
      · rw [kd_P] at k; exact absurd k (by decide)
  · refine List.Pairwise.imp_of_mem (fun {a c} ha hc n x hx y hy q => ?_) h.1
    obtain ⟨v, hv, hn⟩ := entI_mem hx
    obtain ⟨v', hv', hn'⟩ := entI_mem hy
    rw [hn, hn'] at q
    exact n (nmV_inj nb.1 nb.1 (nb.2 a ha) (nb.2 c hc) ((hE a ha).2.2 v hv).1 ((hE c hc).2.2 v' hv').1 q).2.1
  · refine List.Pairwise.imp_of_mem (fun {a c} ha hc n x hx y hy q => ?_) h.2.2.1
    have k := kd_eq q
    rcases uplI_mem hx with rfl | ⟨p, hp, rfl⟩ <;> rcases uplI_mem hy with rfl | ⟨p', hp', rfl⟩
    · exact n (itU_inj nb.1 nb.1 (hU a ha).2.1 (hU c hc).2.1 q).2
    · rw [kd_U, kd_P] at k; exact absurd k (by decide)
    · rw [kd_U, kd_P] at k; exact absurd k (by decide)
    · exact n (itP_inj nb.1 nb.1 (hU a ha).2.1 (hU c hc).2.1 ⟨((hU a ha).2.2.2 p hp).1, ((hU a ha).2.2.2 p hp).2.1⟩ ⟨((hU c hc).2.2.2 p' hp').1, ((hU c hc).2.2.2 p' hp').2.1⟩ q).2.1
  · have k := kd_eq q
    obtain ⟨e, he, hx⟩ := List.mem_flatMap.1 hx
    obtain ⟨v, hv, hn⟩ := entI_mem hx
    rw [kd_V hn] at k
    obtain ⟨u, hu, hy⟩ := List.mem_flatMap.1 hy
    rcases uplI_mem hy with rfl | ⟨p, hp, rfl⟩
    · rw [kd_U] at k; exact absurd k (by decide)
    · rw [kd_P] at k; exact absurd k (by decide)
end Go.Proofs.YtbilnomafloopaaGreat

namespace Go.Proofs.YtbilnomafloopaaGreat
set_option maxRecDepth 100000
open Go.ChangeShapes Go.WideShapes Go.ChangeAt Go.RowKit
set_option linter.unusedVariables false
set_option linter.unusedSimpArgs false
def itC (d : Dep) : Itm := ⟨⟨#[116]⟩, mk (lst [mk (oct d.now.toNat 8)])⟩
def depI (d : Dep) : List Itm := itC d :: d.L.flatMap bktI
theorem flat_part {α β : Type} (f : α → List β) (l : List α) (i : Nat) : ((l.take i).flatMap f).length ≤ (l.flatMap f).length := by
  have h : l.flatMap f = (l.take i).flatMap f ++ (l.drop i).flatMap f := by rw [← List.flatMap_append, List.take_append_drop]
  rw [h, List.length_append]; omega
theorem bktI_ok {b : Bkt} (h : tinyB b) : ∀ x ∈ bktI b, okIZ x := by
  obtain ⟨hb, -, -, -, -, -, hE, hU⟩ := h
  intro x hx
  rcases List.mem_cons.1 hx with rfl | hx
  · refine ⟨?_, lst_small _ (fun s hs => ?_) (by simp)⟩
    · show ((⟨#[98]⟩ : ByteArray) ++ b.name).size ≤ _
      rw [ByteArray.size_append]
      show 1 + b.name.size ≤ _
      unfold maxLen; omega
    · simp only [List.mem_cons, List.not_mem_nil, or_false] at hs
      rcases hs with rfl | rfl <;> rw [oct_mk] <;> omega
  rcases List.mem_append.1 hx with hx | hx
  · obtain ⟨e, he, hx⟩ := List.mem_flatMap.1 hx
    exact entI_ok hb (hE e he) x hx
  · obtain ⟨u, hu, hx⟩ := List.mem_flatMap.1 hx
    exact uplI_ok hb (hU u hu) x hx
set_option maxHeartbeats 8000000 in
theorem of_any (d : Dep) (dv : Value) (w : World) (hn : 0 ≤ d.now ∧ d.now ≤ 9223372036854775807) (hb : ∀ b ∈ d.L, tinyB b) (hl : (d.L.flatMap bktI).length ≤ 90000) (hln : d.L.length ≤ 1000) (ht : Bks w w.heap.size dv d.L)
    (hc : ∀ x, Q w x → Calls Tryz.prog 30 #[.agg #[.int .i64 d.now, dv]] x fun e w' => e = .returned (.int .i64 0) ∧ Q x w') :
    Calls Tryz.prog 12 #[.agg #[.int .i64 d.now, dv]] w fun e w' => ∃ v' L', e = .returned (.tuple #[v', .int .i64 0]) ∧ L'.Perm (depI d) ∧ L'.Pairwise (fun x y => ltBZ y.n x.n = false) ∧ OwnI w.heap.size w' v' L' ∧ Q w w' := by
  obtain ⟨A, c, rfl⟩ := ht.form
  have HT := Lib.hid ht
  have HY := Lib.hid hb
  have HFL := Lib.hid hl
  have hyn : ((d.now.toNat : Nat) : Int) = d.now := Int.toNat_of_nonneg hn.1
  have C1 := Lib.hid hc
  have C2 := Lib.hid (fun x => num_any d.now.toNat x (by omega))
  have C3 := Lib.hid (fun x v h => laid_any ⟨#[116]⟩ [mk (oct d.now.toNat 8)] v x (okL_one (by rw [oct_mk]; omega)) (fun s hs => by rw [List.mem_singleton] at hs; rw [hs, oct_mk]; omega) (by simp) h)
  have HI : Hid (itC d = ⟨⟨#[116]⟩, mk (lst [mk (oct d.now.toNat 8)])⟩) := Lib.hid rfl
  rw [itm] at C3
  simp only at C3
  rw [hyn] at C2
  obtain ⟨V, hV⟩ : ∃ V, V = mk (lst [mk (oct d.now.toNat 8)]) := ⟨_, rfl⟩
  rw [← hV] at C3 HI
  obtain ⟨N, hN⟩ : ∃ N, N = mk (oct d.now.toNat 8) := ⟨_, rfl⟩
  rw [← hN] at C2 C3
  have n0 := Bx.new w 24 #[.int .i64 d.now, .slice A d.L.length c]
  have q0 := (Q.refl w).alloc (.cells #[.int .i64 d.now, .slice A d.L.length c] 24)
  have hwr : IntKind.u64.wrap d.now = d.now := by rw [IntKind.wrap_u64]; omega
  clear hV hN hc hb ht hl
  go_enter Tryz.func12, Tryz.ntmps12
  go_wp2_with fail
  refine (C1.out _ q0).mono ?_
  rintro e w1 ⟨rfl, q1⟩
  have n1 := n0.on q1
  have c0 := n1.cell 0
  simp only [List.getElem?_toArray, List.getElem?_cons_zero, List.getElem?_cons_succ] at c0
  have q2 := q0.trans q1
  clear C1 n0 q0 q1
  go_wp2_with fail
  refine (C2.out _).mono ?_
  rintro e w2 ⟨rfl, q3⟩
  have q4 := q2.trans q3
  have n2 := n1.on q3
  have tx := txts_one w2 N
  have q5 := q4.alloc (.cells #[.string N] 9)
  have n3 := n2.alloc (.cells #[.string N] 9)
  clear C2 q2 q3 n1 c0 q4 n2
  go_wp2_with fail
  refine (C3.out _ _ tx).mono ?_
  rintro e w3 ⟨rfl, q6⟩
  have q7 := q5.trans q6
  have n4 := n3.on q6
  have ow0 := own_one w3 w.heap.size (itC d) q7.size
  rw [HI.out] at ow0
  have ow : OwnI w.heap.size (w3.alloc (.cells #[.string ⟨#[116]⟩, .string V] 68)) (.slice (some ⟨w3.heap.size, 0, none⟩) 1 1) [⟨⟨#[116]⟩, V⟩] := ow0
  rw [← HI.out] at ow
  have q8 := q7.alloc (.cells #[.string ⟨#[116]⟩, .string V] 68)
  have n5 := n4.alloc (.cells #[.string ⟨#[116]⟩, .string V] 68)
  have c1 := n5.cell 1
  simp only [List.getElem?_toArray, List.getElem?_cons_zero, List.getElem?_cons_succ] at c1
  obtain ⟨g, hg⟩ : ∃ z, z = w3.heap.size := ⟨_, rfl⟩
  obtain ⟨y1, hy1⟩ : ∃ z, z = w3.alloc (.cells #[.string ⟨#[116]⟩, .string V] 68) := ⟨_, rfl⟩
  rw [← hy1] at ow q8 c1
  rw [← hg] at ow
  clear C3 tx q5 q6 n3 n4 q7 ow0 n5
  go_upto_region 4 with fail
  rw [← hy1, ← hg]
  clear hy1 hg
  have HO := Lib.hid ow
  have HQ := Lib.hid q8
  clear ow q8
  go_wp2_with fail
  go_loopw [4, 20] (fun O I wr => ∃ i : Nat, i ≤ d.L.length ∧ I = .int .i64 i ∧ OwnI w.heap.size wr O (itC d :: (d.L.take i).flatMap bktI) ∧ Q w wr) (fun _ I _ => d.L.length - (intOf I).toNat)
  case atStart => exact ⟨0, Nat.zero_le _, rfl, HO.out, HQ.out⟩
  case round =>
    obtain ⟨i, hil, rfl, hown, hbel⟩ := hrel
    clear c1 HO HQ
    by_cases hlt : i < d.L.length
    · obtain ⟨a, c', lv, uv, hAa, ha, -, hbv, hat⟩ := HT.out.pick i hlt
      injection hAa with hA1 hA2 hA3
      subst hA1 hA3
      have hy0 := HY.out _ (List.getElem_mem hlt)
      have HFT := Lib.hid (flat_take bktI d.L i hlt)
      have hle := flat_part bktI d.L (i + 1)
      obtain ⟨c0, c1, c2, c3, c4⟩ := hat _ hbel
      obtain ⟨y, hy⟩ : ∃ y, y = d.L[i] := ⟨_, rfl⟩
      rw [← hy] at hbv c0 c1 c4 hy0 HFT
      rw [HFT.out, List.length_append] at hle
      clear hy hat
      obtain ⟨hv1, hv2⟩ := hbv
      obtain ⟨A9, c9, e9, -⟩ := id hv1
      obtain ⟨A8, c8, e8, -⟩ := id hv2
      subst e9 e8
      have CV := Lib.hid (fun (x : World) (q : Q w x) => bktItems_any y _ _ x hy0 (hv1.on q) (hv2.on q))
      simp only [bkt] at CV
      have hilt : (i : Int) < (d.L.length : Int) := by omega
      have hfl := HFL.out
      have qa := hbel.alloc (.cells #[.string y.name, .int .i64 y.st, .slice A9 y.L.length c9, .slice A8 y.U.length c8, .int .u64 (y.last : Nat)] 60)
      have qa0 := (Q.refl wr).alloc (.cells #[.string y.name, .int .i64 y.st, .slice A9 y.L.length c9, .slice A8 y.U.length c8, .int .u64 (y.last : Nat)] 60)
      have EOK := Lib.hid (bktI_ok hy0)
      clear hv1 hv2 hy0
      go_wp2_with fail
      refine (CV.out _ qa).mono ?_
      rintro e w5 ⟨v5, rfl, o5, q5⟩
      have rd := OwnI.read o5 EOK.out
      obtain ⟨A5, c5, e5, -⟩ := id rd
      subst e5
      have o0 := hown.on (qa0.trans q5)
      have q6 := qa.trans q5
      have hz6 := q6.size
      clear o5 CV EOK c0 c1 c2 c3 c4
      go_wp2_with (at_builtin; refine wpList_append_itm _ rfl _ _ 26 Tryz.underlying26 rfl w.heap.size w5.heap.size _ _ _ rfl rfl o0 rd ?hb ?hl ?_; (case hb => omega); (case hl => simp only [List.length_cons]; omega); intro v8 w8 o8 g8)
      rw [List.cons_append, ← HFT.out] at o8
      have q8 : Q w w8 := Below.grown q6 g8 q6.size (fun k hk => (World.ownsRow.lt o0 k hk).1)
      go_roundw
      case rel =>
        exact ⟨i + 1, by omega, by go_num, o8, q8⟩
      case measure => simp [intOf]; omega
    · have h2 : ¬ (i : Int) < (d.L.length : Int) := by omega
      have hfin : OwnI w.heap.size wr u4 (depI d) := by rw [List.take_of_length_le (by omega)] at hown; exact hown
      have hle : (depI d).length ≤ 100000 := by have := HFL.out; simp only [depI, List.length_cons]; omega
      have C := Lib.hid (sortItems_any (depI d) u4 w.heap.size wr hfin hle)
      clear hown
      go_wp2_with fail
      refine (C.out).mono ?_
      rintro e w9 ⟨rfl, L', hp, hs, o9, g9⟩
      have q9 := Below.grown hbel g9 hbel.size (fun k hk => (World.ownsRow.lt hfin k hk).1)
      clear C hfin g9
      go_wp2_with fail
      go_ret2
      exact ⟨_, L', rfl, hp, hs, o9, q9⟩
end Go.Proofs.YtbilnomafloopaaGreat

namespace Go.Proofs.YtbilnomafloopaaGreat
set_option maxRecDepth 100000
open Go.ChangeShapes Go.WideShapes Go.ChangeAt Go.RowKit
set_option linter.unusedVariables false
set_option linter.unusedSimpArgs false
theorem kd_C (d : Dep) : kd (itC d) = some 116 := rfl
theorem kd_of {b : Bkt} {x : Itm} (h : ofB b x) : kd x ≠ some 116 := by
  rcases h with rfl | ⟨e, he, v, hv, hn⟩ | ⟨u, hu, rfl⟩ | ⟨u, hu, p, hp, rfl⟩
  · rw [kd_B]; decide
  · rw [kd_V hn]; decide
  · rw [kd_U]; decide
  · rw [kd_P]; decide
theorem depI_pair {d : Dep} (hb : ∀ b ∈ d.L, tinyB b) (nb : ∀ b ∈ d.L, nlB b) (ob : ∀ b ∈ d.L, oneB b) (h : d.L.Pairwise fun b c => b.name ≠ c.name) : (depI d).Pairwise fun x y => x.n ≠ y.n := by
  refine List.pairwise_cons.2 ⟨fun y hy q => ?_, List.pairwise_flatMap.2 ⟨fun b hm => bktI_pair (hb b hm) (nb b hm) (ob b hm), ?_⟩⟩
  · obtain ⟨b, hm, hx⟩ := List.mem_flatMap.1 hy
    exact kd_of (bktI_mem hx) ((kd_eq q).symm.trans (kd_C d))
  · exact List.Pairwise.imp_of_mem (fun {a c} ha hc n x hx y hy q => n (bktI_apart (hb a ha) (hb c hc) (nb a ha) (nb c hc) (bktI_mem hx) (bktI_mem hy) q)) h
theorem depI_asc {d : Dep} {L : List Itm} (hp : L.Perm (depI d)) (hs : L.Pairwise fun x y => ltBZ y.n x.n = false) (hd : (depI d).Pairwise fun x y => x.n ≠ y.n) : Asc Itm.n L := by
  have hd2 : L.Pairwise (fun x y => x.n ≠ y.n) := (hp.pairwise_iff (fun h => fun e => h e.symm)).2 hd
  exact (hd2.and hs).imp fun h => ltB_totalZ (fun e => h.1 e.symm) h.2
theorem itC_ok (d : Dep) : okIZ (itC d) := by
  refine ⟨by show (1 : Nat) ≤ _; unfold maxLen; omega, lst_small _ (fun s hs => ?_) (by simp)⟩
  rw [List.mem_singleton] at hs; rw [hs, oct_mk]; omega
theorem depI_ok {d : Dep} (hb : ∀ b ∈ d.L, tinyB b) : ∀ x ∈ depI d, okIZ x := by
  intro x hx
  rcases List.mem_cons.1 hx with rfl | hx
  · exact itC_ok d
  · obtain ⟨b, hm, hx⟩ := List.mem_flatMap.1 hx
    exact bktI_ok (hb b hm) x hx
end Go.Proofs.YtbilnomafloopaaGreat

namespace Go.Proofs.YtbilnomafloopaaGreat
set_option maxRecDepth 100000
open Go.ChangeShapes Go.WideShapes Go.ChangeAt Go.RowKit
set_option linter.unusedVariables false
set_option linter.unusedSimpArgs false
def oneE (e : Ent) : Ent := ⟨fewS e.key, fewV e.L⟩
def fewE (l : List Ent) : List Ent := (l.take 61).map oneE
theorem fewE_take (l : List Ent) (i : Nat) (h : i < l.length) : (l.take (i + 1)).map oneE = (l.take i).map oneE ++ [oneE l[i]] := by
  rw [List.take_succ_eq_append_getElem h, List.map_append]; rfl
theorem OwnV.low {base b2 : Nat} {w : World} {v : Value} {l : List Ver} (h : OwnV base w v l) (k : b2 ≤ base) : OwnV b2 w v l := by
  rcases h.2 with ⟨rfl, h0⟩ | ⟨g, cap, cur, rfl, hb, r⟩
  · exact ⟨h.1, .inl ⟨rfl, h0⟩⟩
  · exact ⟨h.1, .inr ⟨g, cap, cur, rfl, by omega, r⟩⟩
theorem fewV_len (l : List Ver) : (fewV l).length ≤ 21 := by rw [fewV, List.length_map, List.length_take]; omega
theorem fewV_okV {l : List Ver} (h : ∀ x ∈ l, okV x) : ∀ x ∈ fewV l, okV x := by
  intro x hx
  rw [fewV, List.mem_map] at hx
  obtain ⟨y, hy, rfl⟩ := hx
  exact oneV_ok (h y (List.mem_of_mem_take hy))
/-- A row of entries whose versions are rows of the call's own, too. -/
def RowG (base : Nat) (w : World) (v : Value) (l : List Ent) : Prop := ∃ P : List (Ent × Value), P.map (·.1) = l ∧ RowE base w v P ∧ ∀ p ∈ P, p.1.key.size ≤ maxLen ∧ (∀ x ∈ p.1.L, okV x) ∧ p.1.L.length ≤ maxLen ∧ OwnV base w p.2 p.1.L
theorem RowG.own {base : Nat} {w : World} {v : Value} {l : List Ent} (h : RowG base w v l) : OwnE base w v l := by
  obtain ⟨P, e, r, f⟩ := h
  exact ⟨P, e, r, fun p hp => ⟨(f p hp).1, (f p hp).2.1, (f p hp).2.2.1, .inr (f p hp).2.2.2⟩⟩
theorem RowG.nil (base : Nat) (w : World) : RowG base w (.slice none 0 0) [] := ⟨[], rfl, World.ownsRow_nil w _ _ _, by simp⟩
theorem RowG.on {base : Nat} {w w' : World} {v : Value} {l : List Ent} (h : RowG base w v l) (q : Q w w') : RowG base w' v l := by
  obtain ⟨P, e, r, f⟩ := h
  exact ⟨P, e, r.on q, fun p hp => ⟨(f p hp).1, (f p hp).2.1, (f p hp).2.2.1, (f p hp).2.2.2.on q⟩⟩
/-- A block of elements of a kind is no block of another kind's. -/
def OfT (t : TypeId) (w : World) (row : Option Nat) : Prop := ∀ k, row = some k → ∃ cs f, w.heap[k]? = some (.cells cs t f)
theorem ofT_row {base sz n : Nat} {t : TypeId} {xs : List Value} {w : World} {v : Value} (r : w.ownsRow base t sz v n xs) : OfT t w v.ownBlock := by
  intro k hk
  rcases r.2 with ⟨rfl, -⟩ | ⟨k', cap', cur', rfl, -, hk', -⟩
  · simp [Value.ownBlock] at hk
  · simp [Value.ownBlock] at hk
    subst hk
    exact ⟨_, _, hk'⟩
theorem own_else {base sz n : Nat} {t t2 : TypeId} {xs : List Value} {w w' : World} {v : Value} {row : Option Nat} (h : w.ownsRow base t sz v n xs) (ht : t ≠ t2) (r : OfT t2 w row) (g : w.grownBy w' row) : w'.ownsRow base t sz v n xs := by
  refine World.ownsRow.kept h g ?_
  rcases h.2 with ⟨rfl, -⟩ | ⟨k, cap, cur, rfl, -, hk, -⟩
  · exact .inl rfl
  · refine .inr fun e => ?_
    obtain ⟨cs, f, hk'⟩ := r k e.symm
    rw [hk] at hk'
    injection hk' with hk'
    injection hk' with e1 e2
    exact ht e2
theorem RowG.else {base : Nat} {t : TypeId} {w w' : World} {u : Value} {l : List Ent} {row : Option Nat} (h : RowG base w u l) (h1 : 63 ≠ t) (h2 : 81 ≠ t) (r : OfT t w row) (g : w.grownBy w' row) : RowG base w' u l := by
  obtain ⟨P, e, q, f⟩ := h
  exact ⟨P, e, own_else q h1 r g, fun p hp => ⟨(f p hp).1, (f p hp).2.1, (f p hp).2.2.1, own_else (f p hp).2.2.2 h2 r g⟩⟩
theorem RowG.low {base b2 : Nat} {w : World} {v : Value} {l : List Ent} (h : RowG base w v l) (k : b2 ≤ base) : RowG b2 w v l := by
  obtain ⟨P, e, r, f⟩ := h
  refine ⟨P, e, ?_, fun p hp => ⟨(f p hp).1, (f p hp).2.1, (f p hp).2.2.1, OwnV.low (f p hp).2.2.2 k⟩⟩
  rcases r.2 with ⟨rfl, h0⟩ | ⟨g, cap, cur, rfl, hb, r2⟩
  · exact ⟨r.1, .inl ⟨rfl, h0⟩⟩
  · exact ⟨r.1, .inr ⟨g, cap, cur, rfl, by omega, r2⟩⟩
theorem RowG.snoc {base : Nat} {w w' : World} {v v' : Value} {P : List (Ent × Value)} {p : Ent × Value} (r : RowE base w v P) (f : ∀ q ∈ P, q.1.key.size ≤ maxLen ∧ (∀ x ∈ q.1.L, okV x) ∧ q.1.L.length ≤ maxLen ∧ OwnV base w q.2 q.1.L) (hp : p.1.key.size ≤ maxLen ∧ (∀ x ∈ p.1.L, okV x) ∧ p.1.L.length ≤ maxLen ∧ OwnV base w p.2 p.1.L)
    (h1 : w'.ownsRow base 63 2 v' (P.length + 1) (P.flatMap pcells ++ pcells p)) (g : w.grownBy w' v.ownBlock) : RowG base w' v' (P.map (·.1) ++ [p.1]) := by
  refine ⟨P ++ [p], by simp, RowE.onto (R := [p]) (by simpa using h1) rfl, fun q hq => ?_⟩
  have each : ∀ q : Ent × Value, q.1.key.size ≤ maxLen ∧ (∀ x ∈ q.1.L, okV x) ∧ q.1.L.length ≤ maxLen ∧ OwnV base w q.2 q.1.L → q.1.key.size ≤ maxLen ∧ (∀ x ∈ q.1.L, okV x) ∧ q.1.L.length ≤ maxLen ∧ OwnV base w' q.2 q.1.L := fun q k => ⟨k.1, k.2.1, k.2.2.1, own_else k.2.2.2 (by decide) (ofT_row r) g⟩
  rcases List.mem_append.1 hq with hq | hq
  · exact each q (f q hq)
  · obtain rfl : q = p := by simpa using hq
    exact each q hp
set_option maxHeartbeats 4000000 in
set_option maxRecDepth 100000 in
theorem fewE_row (l : List Ent) (v : Value) (w : World) (hl : l.length ≤ maxLen) (ht : Ents w w.heap.size v l) :
    Calls Tryz.prog 62 #[v] w fun e w' => ∃ v', e = .returned v' ∧ RowG w.heap.size w' v' (fewE l) ∧ Q w w' := by
  obtain ⟨A, c, rfl, -, -, hok, hcells⟩ := ht
  unfold maxLen at hl
  have HC := Lib.hid hcells
  have HK := Lib.hid hok
  clear hcells hok
  obtain ⟨i0, hi, hz0, hz1, hz2⟩ := info_parts info_ent
  go_enter Tryz.func62, Tryz.ntmps62
  go_wp2_with fail
  go_loopw [3, 4] (fun O I wr => ∃ i : Nat, i ≤ l.length ∧ i ≤ 61 ∧ I = .int .i64 i ∧ RowG w.heap.size wr O ((l.take i).map oneE) ∧ Q w wr) (fun _ I _ => 61 - (intOf I).toNat)
  case atStart => exact ⟨0, Nat.zero_le _, by omega, rfl, RowG.nil _ _, Q.refl _⟩
  case round =>
    obtain ⟨i, hil, hi61, rfl, hown, hbel⟩ := hrel
    by_cases hlt : i < l.length
    · by_cases h61 : i < 61
      · obtain ⟨a, rfl, ha, hat⟩ := HC.out i hlt
        have HW := Lib.hid (fewE_take l i hlt)
        have hx0 := HK.out _ (List.getElem_mem hlt)
        have hlen : ((l.take i).map oneE).length ≤ 61 := by rw [List.length_map, List.length_take]; omega
        obtain ⟨x, hx⟩ : ∃ x, x = l[i] := ⟨_, rfl⟩
        rw [← hx] at hat HW hx0
        clear hx
        obtain ⟨u, hu⟩ : ∃ u, w.cell? ⟨(a.add (i * 2)).block, (a.add (i * 2)).off + 1, none⟩ = some u ∧ Vers w w.heap.size u x.L := hat.2
        obtain ⟨hu1, hu2⟩ := hu
        have HV := Lib.hid hu2.okAll'
        have hu0 := hat.1
        obtain ⟨A2, n2, c2, rfl⟩ : ∃ A n c, u = .slice A n c := by obtain ⟨A, c, e⟩ := hu2.form; exact ⟨A, _, c, e⟩
        have KS : Hid (∀ d, Q w d → (fun w' => w'.cell? (a.add (i * 2)) = some (.string x.key) ∧ w'.cell? ⟨(a.add (i * 2)).block, (a.add (i * 2)).off + 1, none⟩ = some (.slice A2 n2 c2) ∧ Q w w') d) := Lib.hid (fun d q => ⟨(q.cell (p := a.add (i * 2)) (by rw [add_block]; exact ha)).trans hu0, (q.cell (p := ⟨(a.add (i * 2)).block, (a.add (i * 2)).off + 1, none⟩) (by show (a.add (i * 2)).block < _; rw [add_block]; exact ha)).trans hu1, q⟩)
        have FS := Lib.hid fun d => fewS_any x.key d hx0.1
        have FV : Hid (∀ d, Q w d → Calls Tryz.prog 97 #[.slice A2 n2 c2] d fun e w' => ∃ v', e = .returned v' ∧ OwnV d.heap.size w' v' (fewV x.L) ∧ Q d w') := Lib.hid (fun d q => few_any x.L _ d hx0.2 (hu2.on q))
        have hilt : (i : Int) < (l.length : Int) := by omega
        have hi61' : (i : Int) < 61 := by omega
        clear hat hu0 hu1 hu2
        go_wp2_with fail
        refine wp_region_held_drew (S := (fun w' => w'.cell? (a.add (i * 2)) = some (.string x.key) ∧ w'.cell? ⟨(a.add (i * 2)).block, (a.add (i * 2)).off + 1, none⟩ = some (.slice A2 n2 c2) ∧ Q w w')) (by kernel_rfl) (KS.out _ hbel.drew) (fun hHeld => ?_)
        refine wpAnyH_take (i := 0) (oi := _) (v := ?_) rfl (by kernel_rfl) (by kernel_rfl) (by kernel_rfl) (fun _ _ _ h => h) (Or.inl ⟨by rfl, ?_⟩) (by assumption) ?_
        rotate_left
        · (intro wx hSw; (try dsimp only at hSw); go_simp; (try with_reducible rfl))
        (try simp only [Act.put, PS])
        refine wpAnyH_take (i := 1) (oi := _) (v := ?_) rfl (by kernel_rfl) (by kernel_rfl) (by kernel_rfl) (fun _ _ _ h => h) (Or.inl ⟨by rfl, ?_⟩) (by assumption) ?_
        rotate_left
        · (intro wx hSw; (try dsimp only at hSw); go_simp; (try with_reducible rfl))
        (try simp only [Act.put, PS])
        refine wpAnyH_take (i := 2) (oi := _) (v := ?_) rfl (by kernel_rfl) (by kernel_rfl) (by kernel_rfl) (fun _ _ _ h => h) (Or.inl ⟨by rfl, ?_⟩) (by assumption) ?_
        rotate_left
        · (intro wx hSw; (try dsimp only at hSw); go_simp; (try with_reducible rfl))
        (try simp only [Act.put, PS])
        refine wpAnyH_take (i := 3) (oi := _) (v := ?_) rfl (by kernel_rfl) (by kernel_rfl) (by kernel_rfl) (fun _ _ _ h => h) (Or.inl ⟨by rfl, ?_⟩) (by assumption) ?_
        rotate_left
        · (intro wx hSw; (try dsimp only at hSw); go_simp; (try with_reducible rfl))
        (try simp only [Act.put, PS])
        refine wpAnyH_take (i := 4) (oi := _) (v := ?_) rfl (by kernel_rfl) (by kernel_rfl) (by kernel_rfl) (fun _ _ _ h => h) (Or.inl ⟨by rfl, ?_⟩) (by assumption) ?_
        rotate_left
        · (intro wx hSw; (try dsimp only at hSw); go_simp; (try with_reducible rfl))
        (try simp only [Act.put, PS])
        refine wpAnyH_take (i := 5) (oi := _) (v := ?_) rfl (by kernel_rfl) (by kernel_rfl) (by kernel_rfl) (fun _ _ _ h => h) (Or.inl ⟨by rfl, ?_⟩) (by assumption) ?_
        rotate_left
        · (intro wx hSw; (try dsimp only at hSw); go_simp; (try with_reducible rfl))
        (try simp only [Act.put, PS])
        refine wpAnyH_take (i := 7) (oi := _) (v := ?_) rfl (by kernel_rfl) (by kernel_rfl) (by kernel_rfl) (fun _ _ _ h => h) (Or.inl ⟨by rfl, ?_⟩) (by assumption) ?_
        rotate_left
        · (intro wx hSw; (try dsimp only at hSw); go_simp; (try with_reducible rfl))
        (try simp only [Act.put, PS])
        refine wpAnyH_take (i := 8) (oi := _) (v := ?_) rfl (by kernel_rfl) (by kernel_rfl) (by kernel_rfl) (fun _ _ _ h => h) (Or.inl ⟨by rfl, ?_⟩) (by assumption) ?_
        rotate_left
        · (intro wx hSw; (try dsimp only at hSw); go_simp; (try with_reducible rfl))
        (try simp only [Act.put, PS])
        refine wpAnyH_take (i := 9) (oi := _) (v := ?_) rfl (by kernel_rfl) (by kernel_rfl) (by kernel_rfl) (fun _ _ _ h => h) (Or.inl ⟨by rfl, ?_⟩) (by assumption) ?_
        rotate_left
        · (intro wx hSw; (try dsimp only at hSw); go_simp; (try with_reducible rfl))
        (try simp only [Act.put, PS])
        refine wpAnyH_take (i := 10) (oi := _) (v := ?_) rfl (by kernel_rfl) (by kernel_rfl) (by kernel_rfl) (fun _ _ _ h => h) (Or.inl ⟨by rfl, ?_⟩) (by assumption) ?_
        rotate_left
        · (intro wx hSw; (try dsimp only at hSw); go_simp; (try with_reducible rfl))
        (try simp only [Act.put, PS])
        refine wpAnyH_take (i := 11) (oi := _) (v := ?_) rfl (by kernel_rfl) (by kernel_rfl) (by kernel_rfl) (fun _ _ _ h => h) (Or.inl ⟨by rfl, ?_⟩) (by assumption) ?_
        rotate_left
        · (intro wx hSw; (try dsimp only at hSw); go_simp; (try with_reducible rfl))
        (try simp only [Act.put, PS])
        refine wpAnyH_ready (rs := [6]) (by kernel_rfl) (by simp) ?_
        refine AllReadyH.cons (o := _) rfl (fun K hK => ?_) AllReadyH.nil
        go_simp
        go_at_call 48
        refine (FS.out _).mono ?_
        rintro e wa ⟨rfl, rfl⟩
        refine hK.out _ _ (KS.out _ hbel.drew) (fun hHeld => ?_)
        clear hK K
        (try simp only [Act.put, PS])
        refine wpAnyH_ready (rs := [12]) (by kernel_rfl) (by simp) ?_
        refine AllReadyH.cons (o := _) rfl (fun K hK => ?_) AllReadyH.nil
        go_simp
        go_at_call 97
        refine (FV.out _ hbel.drew).mono ?_
        rintro e wb ⟨v5, rfl, o5, q5⟩
        obtain ⟨A5, n5, c5, rfl⟩ : ∃ A n c, v5 = .slice A n c := by obtain ⟨A, c, e⟩ := own_len o5; exact ⟨A, _, c, e⟩
        have b5 : Q w wb := hbel.drew.trans q5
        refine hK.out _ _ (KS.out _ b5) (fun hHeld => ?_)
        clear hK K
        (try simp only [Act.put, PS])
        refine wpAnyH_take (i := 13) (oi := _) (v := ?_) rfl (by kernel_rfl) (by kernel_rfl) (by kernel_rfl) (fun _ _ _ h => h) (Or.inl ⟨by rfl, ?_⟩) (by assumption) ?_
        rotate_left
        · (intro wx hSw; (try dsimp only at hSw); go_simp; (try with_reducible rfl))
        (try simp only [Act.put, PS])
        refine wpAnyH_ready (rs := [14]) (by kernel_rfl) (by simp) ?_
        refine AllReadyH.cons (o := _) rfl (fun K hK => ?_) AllReadyH.nil
        go_simp
        refine hK.out _ _ (KS.out _ (b5.alloc _)) (fun hHeld => ?_)
        clear hK K
        (try simp only [Act.put, PS])
        refine wpAnyH_ready (rs := [15]) (by kernel_rfl) (by simp) ?_
        refine AllReadyH.cons (o := _) rfl (fun K hK => ?_) AllReadyH.nil
        rw [if_pos (by rfl)]
        have hs := b5.size
        obtain ⟨P, hP, hr, hf⟩ := RowG.on hown ((Q.refl wr).drew.trans q5)
        have hPl : P.length ≤ 61 := by rw [← List.length_map (f := (·.1)), hP]; exact hlen
        have ap5 : (∀ y ∈ fewV x.L, okV y) ∧ (fewV x.L).length ≤ maxLen ∧ OwnV w.heap.size wb (.slice A5 n5 c5) (fewV x.L) := ⟨fewV_okV HV.out, by have := fewV_len x.L; unfold maxLen; omega, OwnV.low o5 (by simpa using hbel.size)⟩
        refine wp_append_own _ _ _ 57 rfl w.heap.size 63 i0 (.agg #[.string ⟨#[]⟩, .slice none 0 0]) 2 40 Tryz.underlying57 hi hz0 hz1 hz2 rfl (by decide) _ _ _ rfl (World.ownsRow.alloc hr _) ⟨wb.heap.size, 0, none⟩ 1 1 (pcells (oneE x, .slice A5 n5 c5)) rfl rfl (cells_oneP wb (oneE x, .slice A5 n5 c5) _) (pcells_one ⟨_, _, _, rfl⟩) (by unfold maxLen; omega) (by omega) (by simp; omega) ?_
        intro v6 wc h1 h2 _
        have hfa : ∀ q ∈ P, q.1.key.size ≤ maxLen ∧ (∀ y ∈ q.1.L, okV y) ∧ q.1.L.length ≤ maxLen ∧ OwnV w.heap.size (wb.alloc (.cells #[.string (fewS x.key), .slice A5 n5 c5] 63)) q.2 q.1.L := fun q hq => ⟨(hf q hq).1, (hf q hq).2.1, (hf q hq).2.2.1, (hf q hq).2.2.2.on ((Q.refl wb).alloc _)⟩
        have r6 : RowG w.heap.size wc v6 _ := RowG.snoc (p := (oneE x, .slice A5 n5 c5)) (RowE.on hr ((Q.refl wb).alloc _)) hfa ⟨by have := fewS_size x.key; unfold maxLen; show (fewS x.key).size ≤ _; omega, ap5.1, ap5.2.1, ap5.2.2.on ((Q.refl wb).alloc _)⟩ (by simpa using h1) h2
        rw [hP, ← HW.out] at r6
        have b6 : Q w wc := rowE_grown (b5.alloc _) (by simp; omega) (RowE.on hr ((Q.refl wb).alloc _)) h2
        clear h1 h2 hfa ap5
        refine hK.out _ _ (KS.out _ b6) (fun hHeld => ?_)
        clear hK K
        (try simp only [Act.put, PS])
        refine wpAnyH_take (i := 16) (oi := _) (v := ?_) rfl (by kernel_rfl) (by kernel_rfl) (by kernel_rfl) (fun _ _ _ h => h) (Or.inl ⟨by rfl, ?_⟩) (by assumption) ?_
        rotate_left
        · (intro wx hSw; (try dsimp only at hSw); go_simp; (try with_reducible rfl))
        (try simp only [Act.put, PS])
        refine wpAnyH_done (by kernel_rfl) ?_ _
        go_wp2_with fail
        go_roundw
        case rel => exact ⟨i + 1, by omega, by omega, by go_num, r6, b6⟩
        case measure => simp [intOf]; omega
      · have HW : Hid (fewE l = (l.take i).map oneE) := Lib.hid (by rw [fewE, show i = 61 by omega])
        have h2 : ¬ (i : Int) < 61 := by omega
        go_wp2
        go_ret
        exact ⟨_, rfl, by rw [HW.out]; exact hown, hbel⟩
    · have HW : Hid (fewE l = (l.take i).map oneE) := Lib.hid (by rw [fewE, List.take_of_length_le (by omega), List.take_of_length_le (by omega)])
      have h2 : ¬ (i : Int) < (l.length : Int) := by omega
      go_wp2
      go_ret
      exact ⟨_, rfl, by rw [HW.out]; exact hown, hbel⟩
end Go.Proofs.YtbilnomafloopaaGreat

