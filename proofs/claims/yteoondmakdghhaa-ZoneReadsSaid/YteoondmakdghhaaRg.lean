/-
  Contract of the law's Few of devices.
-/
import Derived.Test.YteoondmakdghhaaRb
import Derived.Laws.ResultCell
namespace Go.Proofs.Yteoondmakdghhaa
set_option maxRecDepth 100000
open Go.ChangeShapes Go.WideShapes Go.ChangeAt Go.RowKit
set_option linter.unusedVariables false
set_option linter.unusedSimpArgs false
set_option maxRecDepth 100000
def fewZn (z : Zn) : Zn := { z with b := z.b.take 301 }
def fewDv (d : Dv) : Dv := { d with zs := (d.zs.take 41).map fewZn }
theorem fewZn_take (l : List Zn) (i : Nat) (h : i < l.length) : (l.take (i + 1)).map fewZn = (l.take i).map fewZn ++ [fewZn l[i]] := by
  rw [List.take_succ_eq_append_getElem h, List.map_append]; rfl
theorem wpList_append_blks {ops : Array Oper} {rest : List Oper} {o : Oper} {a : Act} {Q : Exit → Act → World → Prop} (w : World) (hgd : o.guard = none) (s x : Operand)
    (ho : o.op = .call { callee := .builtin .append, args := #[s, x], argTypes := #[31, 31] })
    (base B : Nat) (v : Value) (l m : List ByteArray) {A : Option Addr} {n c : Nat} (hs : a.eval s = v) (hx : a.eval x = .slice A n c) (h : OwnT base w v l)
    (g : Blks w B (.slice A n c) m) (hb : base ≤ w.heap.size) (hl : l.length + m.length ≤ 1000000)
    (k : ∀ v' w', OwnT base w' v' (l ++ m) → w.grownBy w' v.ownBlock → wpList Try.prog ops Q rest (a.put o.dst v') w') : wpList Try.prog ops Q (o :: rest) a w := by
  refine wpList_plain hgd fun K hK => ?_
  obtain ⟨i0, hi0, hz0, hz1, hz2⟩ := info_parts info_str
  have hrun : ∃ v' w', (Builtin.append_ #[31, 31] o.type #[v, .slice A n c]).run Try.prog w = .ok v' w' ∧ OwnT base w' v' (l ++ m) ∧ w.grownBy w' v.ownBlock := by
    obtain ⟨A', c', e, e0, ez, f⟩ := g
    injection e with e1 e2 e3
    subst e1 e2 e3
    cases A with
    | none =>
      have hc := ez rfl
      have hm : m = [] := List.length_eq_zero_iff.1 (by omega)
      subst hm hc
      exact ⟨v, w, run_append_owned_none (P := Try.prog) (w := w) base 31 o.type 9 i0 1 Try.underlying31 hi0 v _ _ h, by simpa using h, World.grownBy.refl w _⟩
    | some a =>
      have hcells : ∀ j u, (m.map Value.string)[j]? = some u → w.cell? (a.add j) = some u := by
        intro j u hu
        obtain ⟨hj, rfl⟩ := List.getElem?_eq_some_iff.1 hu
        rw [List.length_map] at hj
        obtain ⟨a', ea, -, hc⟩ := f j hj
        injection ea with ea
        subst ea
        rw [List.getElem_map]; exact hc
      obtain ⟨v', w', h1, h2, h3, -⟩ := run_append_own (P := Try.prog) w base 31 o.type 9 i0 (.string ⟨#[]⟩) 1 16 Try.underlying31 hi0 hz0 hz1 hz2 rfl (by decide) v l.length (l.map Value.string) h a m.length c (m.map Value.string) (by simp) hcells (by intro u hu; obtain ⟨s, -, rfl⟩ := List.mem_map.1 hu; rfl) (by unfold maxLen; omega) (by omega) hb
      exact ⟨v', w', h1, by unfold OwnT; rw [List.length_append, List.map_append]; exact h2, h3⟩
  obtain ⟨v', w', h1, h2, h3⟩ := hrun
  unfold Oper.wp execOp
  simp only [ho, resolve, invoke, builtin, Sem.run_bind, Sem.run_pure, Result.andThen_ok, List.map_toArray, List.map_cons, List.map_nil, hs, hx, h1]
  exact hK _ _ (k v' w' h2 h3)
theorem noneT_made (w : World) : OwnT w.heap.size (w.alloc (.cells #[] 9)) (.slice (some ⟨w.heap.size, 0, none⟩) 0 0) [] := World.ownsRow_made w #[] 0 (Nat.le_refl _) (by unfold maxLen; omega) (by simp)
/-- A row of zones whose blocks are rows of the call's own, too. -/
def RowF (base : Nat) (w : World) (v : Value) (l : List Zn) : Prop := ∃ P : List (Zn × Value), P.map (·.1) = l ∧ RowZ base w v P ∧ ∀ p ∈ P, okZ p.1 ∧ OwnT base w p.2 p.1.b
theorem RowF.nil (base : Nat) (w : World) : RowF base w (.slice none 0 0) [] := ⟨[], rfl, World.ownsRow_nil w _ _ _, by simp⟩
theorem RowF.on {base : Nat} {w w' : World} {v : Value} {l : List Zn} (h : RowF base w v l) (q : Q w w') : RowF base w' v l := by
  obtain ⟨P, e, r, f⟩ := h
  exact ⟨P, e, r.on q, fun p hp => ⟨(f p hp).1, (f p hp).2.on q⟩⟩
theorem RowF.own {base : Nat} {w : World} {v : Value} {l : List Zn} (h : RowF base w v l) : OwnZ base w v l := by
  obtain ⟨P, e, r, f⟩ := h
  exact ⟨P, e, r, fun p hp => ⟨(f p hp).1, .inr (f p hp).2⟩⟩
theorem RowF.set {base b k : Nat} {w : World} {v u : Value} {l : List Zn} (h : RowF base w v l) (hb : b < base) : RowF base (w.setCell ⟨b, k, none⟩ u) v l := by
  obtain ⟨P, e, r, f⟩ := h
  exact ⟨P, e, ownsRow_set r hb, fun p hp => ⟨(f p hp).1, ownsRow_set (f p hp).2 hb⟩⟩
theorem RowF.lt {base : Nat} {w : World} {v : Value} {l : List Zn} (h : RowF base w v l) : ∀ k, v.ownBlock = some k → base ≤ k ∧ k < w.heap.size := h.own.lt
theorem OwnT.row {base : Nat} {w w' : World} {v u : Value} {P : List (Zn × Value)} {L : List ByteArray} (h : OwnT base w u L) (r : RowZ base w v P) (g : w.grownBy w' v.ownBlock) (hb : base ≤ w.heap.size) : OwnT base w' u L := by
  refine World.ownsRow.kept h g ?_
  rcases h.2 with ⟨rfl, -⟩ | ⟨k, cap, cur, rfl, -, hk, -⟩
  · exact .inl rfl
  · refine .inr fun e => ?_
    rcases r.2 with ⟨rfl, -⟩ | ⟨k', cap', cur', rfl, -, hk', -⟩
    · simp [Value.ownBlock] at e
    · simp [Value.ownBlock] at e
      subst e
      rw [hk] at hk'
      injection hk' with hk'
      injection hk' with e1 e2
      exact absurd e2 (by decide)
theorem wpList_snoc_rf {ops : Array Oper} {rest : List Oper} {o : Oper} {a : Act} {Q : Exit → Act → World → Prop} (w : World) (hgd : o.guard = none) (s x : Operand) (t : TypeId)
    (htt : Try.prog.underlying t = some (.slice 45)) (ho : o.op = .call { callee := .builtin .append, args := #[s, x], argTypes := #[t, t] })
    (base g : Nat) (v : Value) (l : List Zn) (p : Zn × Value) {c : Nat} (hs : a.eval s = v) (hx : a.eval x = .slice (some ⟨g, 0, none⟩) 1 c) (hgg : ∀ j u, (zcl p)[j]? = some u → w.cell? ((⟨g, 0, none⟩ : Addr).add j) = some u) (h : RowF base w v l) (hp : okZ p.1 ∧ OwnT base w p.2 p.1.b)
    (hb : base ≤ w.heap.size) (hl : l.length ≤ 1000000)
    (k : ∀ v' w', RowF base w' v' (l ++ [p.1]) → w.grownBy w' v.ownBlock → wpList Try.prog ops Q rest (a.put o.dst v') w') : wpList Try.prog ops Q (o :: rest) a w := by
  refine wpList_plain hgd fun K hK => ?_
  obtain ⟨i0, hi0, hz0, hz1, hz2⟩ := info_parts info_zn
  obtain ⟨P, hP, r, f⟩ := h
  have hPl : P.length = l.length := by rw [← hP, List.length_map]
  obtain ⟨v', w', h1, h2, h3, -⟩ := run_append_own (P := Try.prog) w base t o.type 45 i0 (.agg #[.slice none 0 0, .int .i64 0, .bool false]) 3 40 htt hi0 hz0 hz1 hz2 rfl (by decide) v P.length (P.flatMap zcl) r ⟨g, 0, none⟩ 1 c (zcl p) rfl hgg (zcl_one (AptZ.shape (.inr hp.2))) (by unfold maxLen; omega) (by omega) hb
  unfold Oper.wp execOp
  simp only [ho, resolve, invoke, builtin, Sem.run_bind, Sem.run_pure, Result.andThen_ok, List.map_toArray, List.map_cons, List.map_nil, hs, hx, h1]
  refine hK _ _ (k v' w' ⟨P ++ [p], by rw [List.map_append, hP]; rfl, RowZ.onto (R := [p]) (by simpa using h2) rfl, fun q hq => ?_⟩ h3)
  rcases List.mem_append.1 hq with hq | hq
  · exact ⟨(f q hq).1, (f q hq).2.row r h3 hb⟩
  · obtain rfl : q = p := by simpa using hq
    exact ⟨hp.1, hp.2.row r h3 hb⟩
set_option maxHeartbeats 16000000 in
theorem fewD_any (d : Dv) (u : Value) (w : World) (hl : d.zs.length ≤ maxLen) (ht : Zns w w.heap.size u d.zs) :
    Calls Try.prog 9 #[dvV d u] w fun e w' => ∃ v, e = .returned (dvV (fewDv d) v) ∧ Zns w' w'.heap.size v (fewDv d).zs ∧ Q w w' := by
  obtain ⟨A0, c0, hu, hcap, -⟩ := id ht
  subst hu
  have OKA := Lib.hid ht.okAll
  have HT := Lib.hid ht
  clear ht
  obtain ⟨zs, size, mo, fuel, off, bad⟩ := d
  unfold fewDv
  rw [dvV]
  simp only [dvV] at HT hl OKA hcap ⊢
  unfold maxLen at hl
  by_cases hbig : 41 < zs.length
  · have hbig' : (41 : Int) < (zs.length : Int) := by omega
    have hcap' : (41 : Int) ≤ (c0 : Int) := by omega
    have HZ : Hid (Zns w w.heap.size (.slice A0 41 c0) (zs.take 41)) := Lib.hid (HT.out.cutTake (by omega))
    have hlz : (zs.take 41).length = 41 := by rw [List.length_take]; omega
    have OKZ : Hid (∀ x ∈ zs.take 41, okZ x) := Lib.hid fun x hx => OKA.out x (List.mem_of_mem_take hx)
    obtain ⟨L, hL⟩ : ∃ L, L = zs.take 41 := ⟨_, rfl⟩
    have HEQ : Hid (zs.take 41 = L) := Lib.hid hL.symm
    rw [← hL] at HZ hlz OKZ
    have HLZ := Lib.hid hlz
    clear hL hlz HT OKA
    have bx := (Bx.new w 24 #[.slice A0 41 c0, .int .i64 size, .int .i64 mo, .int .i64 fuel, .bool off, .int .i64 bad]).alloc (.cells #[.slice none 0 0, .int .i64 0, .int .i64 0, .int .i64 0, .bool false, .int .i64 0] 24)
    have by_ := Bx.new (w.alloc (.cells #[.slice A0 41 c0, .int .i64 size, .int .i64 mo, .int .i64 fuel, .bool off, .int .i64 bad] 24)) 24 #[.slice none 0 0, .int .i64 0, .int .i64 0, .int .i64 0, .bool false, .int .i64 0]
    have q0 := ((Q.refl w).alloc (.cells #[.slice A0 41 c0, .int .i64 size, .int .i64 mo, .int .i64 fuel, .bool off, .int .i64 bad] 24)).alloc (.cells #[.slice none 0 0, .int .i64 0, .int .i64 0, .int .i64 0, .bool false, .int .i64 0] 24)
    rw [World.size_alloc] at by_
    obtain ⟨W0, hW0⟩ : ∃ z, z = (w.alloc (.cells #[.slice A0 41 c0, .int .i64 size, .int .i64 mo, .int .i64 fuel, .bool off, .int .i64 bad] 24)).alloc (.cells #[.slice none 0 0, .int .i64 0, .int .i64 0, .int .i64 0, .bool false, .int .i64 0] 24) := ⟨_, rfl⟩
    rw [← hW0] at bx by_ q0
    have BX := Lib.hid bx
    have BY := Lib.hid by_
    have Q0 := Lib.hid q0
    clear bx by_ q0
    go_enter Try.func9, Try.ntmps9
    go_upto_region 3 with fail
    rw [← hW0]
    clear hW0
    go_wp2_with fail
    go_loopw [3, 4] (fun O I wr => ∃ i : Nat, i ≤ 41 ∧ I = .int .i64 i ∧ RowF W0.heap.size wr O ((L.take i).map fewZn) ∧ Q W0 wr) (fun _ I _ => 41 - (intOf I).toNat)
    case atStart => exact ⟨0, Nat.zero_le _, rfl, RowF.nil _ _, Q.refl _⟩
    case round =>
      obtain ⟨i, hil, rfl, hown, q⟩ := hrel
      have b0 : wr.cell? ⟨w.heap.size, 0, none⟩ = some (.slice A0 41 c0) := (BX.out.on q).cell 0
      by_cases hlt : i < 41
      · have hilt : (i : Int) < 41 := by omega
        have hlt2 : i < L.length := by have := HLZ.out; omega
        obtain ⟨a, c1, A1, n1, e1, ha, hok, hat⟩ := HZ.out.pick i hlt2
        injection e1 with e1 e2 e3
        subst e1 e3
        clear e2
        have hyl := hok.1
        unfold maxLen at hyl
        obtain ⟨z0, z1, z2, -⟩ := hat wr (Q0.out.trans q)
        have HTK := Lib.hid (fewZn_take L i hlt2)
        have HOKZ := Lib.hid hok
        have HBK : Hid (∀ x, Q wr x → Blks x x.heap.size (.slice A1 L[i].b.length n1) L[i].b) := Lib.hid (fun x qx => (hat x ((Q0.out.trans q).trans qx)).2.2.2)
        have hcp : L[i].b.length ≤ n1 := by
          obtain ⟨A2, c2, e, h, -⟩ := (hat w (Q.refl w)).2.2.2
          injection e with e1 e2 e3
          subst e3
          exact h
        obtain ⟨y, hy⟩ : ∃ y, y = L[i] := ⟨_, rfl⟩
        rw [← hy] at z0 z1 z2 HTK HOKZ HBK hyl hcp
        clear hat hy hok
        have hs0 : W0.heap.size ≤ wr.heap.size := q.size
        have hRL : ((L.take i).map fewZn).length ≤ 100 := by rw [List.length_map, List.length_take]; have := HLZ.out; omega
        by_cases hb : 301 < y.b.length
        · have hb' : (301 : Int) < (y.b.length : Int) := by omega
          have hn1 : (301 : Int) ≤ (n1 : Int) := by omega
          have HM : Hid (∀ x, Q wr x → Blks x x.heap.size (.slice A1 301 n1) (y.b.take 301)) := Lib.hid (fun x qx => (HBK.out x qx).cutTake (by omega))
          have hml : (y.b.take 301).length = 301 := by rw [List.length_take]; omega
          have HFW : Hid (fewZn y = ⟨y.b.take 301, y.firm, y.full⟩) := Lib.hid rfl
          obtain ⟨M, hM⟩ : ∃ M, M = y.b.take 301 := ⟨_, rfl⟩
          rw [← hM] at HM hml HFW
          have HML := Lib.hid hml
          have hM3 : M.length ≤ 301 := by omega
          clear hM hml HBK
          have bz := Bx.new wr 45 #[.slice A1 301 n1, .int .i64 y.firm, .bool y.full]
          have q1 := (Q.refl wr).alloc (.cells #[.slice A1 301 n1, .int .i64 y.firm, .bool y.full] 45)
          obtain ⟨w1, hw1⟩ : ∃ z, z = wr.alloc (.cells #[.slice A1 301 n1, .int .i64 y.firm, .bool y.full] 45) := ⟨_, rfl⟩
          rw [← hw1] at bz q1
          have hs1 : Hid (w1.heap.size = wr.heap.size + 1) := Lib.hid (by rw [hw1]; simp)
          go_upto_region 10 with fail
          rw [← hw1]
          clear hw1
          have own0 := noneT_made w1
          have q2 := (Q.refl w1).alloc (.cells #[] 9)
          have bz2 := bz.on q2
          have x0 := bz2.cell 0
          have hm2 := HM.out _ (q1.trans q2)
          simp only [List.getElem?_toArray, List.getElem?_cons_zero] at x0
          clear z0 z1 z2 b0 bz
          have BZ2 := Lib.hid bz2
          have Q12 := Lib.hid (q1.trans q2)
          have f0 := bz2.frozen 0
          clear bz2 q2 q1
          have KB : Hid (∀ x, (w1.alloc (.cells #[] 9)).grownBy x (some w1.heap.size) → Bx x wr.heap.size 45 #[.slice A1 301 n1, .int .i64 y.firm, .bool y.full] ∧ Q wr x) := Lib.hid (fun x g => ⟨BZ2.out.same (g.block _ BZ2.out.lt (fun e => by injection e with e; have := hs1.out; omega)), Below.grown Q12.out g Q12.out.size (fun k hk => by injection hk with hk; have := hs1.out; omega)⟩)
          go_upto_region 11 with (at_builtin; refine wpList_append_blks _ rfl _ _ rfl w1.heap.size _ _ [] M rfl rfl own0 hm2 ?hb ?hl ?_; (case hb => simp); (case hl => simp; omega); intro v3 w3 o3 g3; rw [List.nil_append] at o3; obtain ⟨A3, c3, rfl⟩ := o3.form; have bz3 := (KB.out _ g3).1; have x3 := bz3.cell 0; have f3 := bz3.frozen 0; simp only [List.getElem?_toArray, List.getElem?_cons_zero] at x3; have O3 := Lib.hid o3; have BZ3 := Lib.hid bz3; have Q3 := Lib.hid (KB.out _ g3).2; clear o3 bz3 g3 x0 f0)
          have bz4 := BZ3.out.set 0 (.slice A3 M.length c3)
          have q4 : Q wr (w3.setCell ⟨wr.heap.size, 0, none⟩ (.slice A3 M.length c3)) := Q.set Q3.out (Nat.le_refl _) _
          have o4 : OwnT w1.heap.size (w3.setCell ⟨wr.heap.size, 0, none⟩ (.slice A3 M.length c3)) (.slice A3 M.length c3) M := ownsRow_set O3.out (by have := hs1.out; omega)
          obtain ⟨w4, hw4⟩ : ∃ z, z = w3.setCell ⟨wr.heap.size, 0, none⟩ (.slice A3 M.length c3) := ⟨_, rfl⟩
          rw [← hw4] at bz4 q4 o4
          rw [← hw4]
          clear hw4 x3 f3 hm2 own0
          obtain ⟨x0, x1, x2⟩ : w4.cell? ⟨wr.heap.size, 0, none⟩ = some (.slice A3 M.length c3) ∧ w4.cell? ⟨wr.heap.size, 1, none⟩ = some (.int .i64 y.firm) ∧ w4.cell? ⟨wr.heap.size, 2, none⟩ = some (.bool y.full) := ⟨bz4.cell 0, bz4.cell 1, bz4.cell 2⟩
          have qa := (Q.refl w4).alloc (.cells #[.slice A3 M.length c3, .int .i64 y.firm, .bool y.full] 45)
          have own5 := hown.on (q4.trans qa)
          have ap5 : OwnT W0.heap.size (w4.alloc (.cells #[.slice A3 M.length c3, .int .i64 y.firm, .bool y.full] 45)) (.slice A3 M.length c3) M := (o4.low (by have := hs1.out; omega)).on qa
          have hok5 : okZ ⟨M, y.firm, y.full⟩ := ⟨by show M.length ≤ maxLen; unfold maxLen; omega, HOKZ.out.2⟩
          have OWN5 := Lib.hid own5
          have AP5 := Lib.hid ap5
          have HOK5 := Lib.hid hok5
          have QX := Lib.hid (q.trans (q4.trans qa))
          have HSZ := Lib.hid (q.trans (q4.trans qa)).size
          clear bz4 o4 hown own5 ap5 hok5 qa q4
          have hs0 := Lib.hid hs0
          have QQ := Lib.hid q
          have hyl := Lib.hid hyl
          have hcp := Lib.hid hcp
          clear q
          go_wp2_with (at_builtin; refine wpList_snoc_rf _ rfl _ _ 22 Try.underlying22 rfl W0.heap.size w4.heap.size _ _ (⟨M, y.firm, y.full⟩, .slice A3 M.length c3) rfl rfl (cells_oneZ w4 (⟨M, y.firm, y.full⟩, .slice A3 M.length c3) 45) OWN5.out ⟨HOK5.out, AP5.out⟩ ?hb ?hl ?_; (case hb => exact HSZ.out); (case hl => omega); intro v6 w6 o6 g6)
          have q6 : Q W0 w6 := Below.grown QX.out g6 QX.out.size (fun k hk => (OWN5.out.lt k hk).1)
          have o6 : RowF W0.heap.size w6 v6 ((L.take (i + 1)).map fewZn) := by rw [HTK.out, HFW.out]; exact o6
          go_roundw
          case rel => exact ⟨i + 1, by omega, by go_num, o6, q6⟩
          case measure => simp [intOf]; omega
        · have hb' : ¬ (301 : Int) < (y.b.length : Int) := by omega
          have HM : Hid (∀ x, Q wr x → Blks x x.heap.size (.slice A1 y.b.length n1) (y.b.take 301)) := Lib.hid (fun x qx => by rw [List.take_of_length_le (by omega)]; exact HBK.out x qx)
          have hml : (y.b.take 301).length = y.b.length := by rw [List.length_take]; omega
          have HFW : Hid (fewZn y = ⟨y.b.take 301, y.firm, y.full⟩) := Lib.hid rfl
          obtain ⟨M, hM⟩ : ∃ M, M = y.b.take 301 := ⟨_, rfl⟩
          rw [← hM] at HM hml HFW
          have HML := Lib.hid hml
          have hM3 : M.length ≤ 301 := by omega
          clear hM hml HBK
          have bz := Bx.new wr 45 #[.slice A1 y.b.length n1, .int .i64 y.firm, .bool y.full]
          have q1 := (Q.refl wr).alloc (.cells #[.slice A1 y.b.length n1, .int .i64 y.firm, .bool y.full] 45)
          obtain ⟨w1, hw1⟩ : ∃ z, z = wr.alloc (.cells #[.slice A1 y.b.length n1, .int .i64 y.firm, .bool y.full] 45) := ⟨_, rfl⟩
          rw [← hw1] at bz q1
          have hs1 : Hid (w1.heap.size = wr.heap.size + 1) := Lib.hid (by rw [hw1]; simp)
          go_upto_region 10 with fail
          rw [← hw1]
          clear hw1
          have own0 := noneT_made w1
          have q2 := (Q.refl w1).alloc (.cells #[] 9)
          have bz2 := bz.on q2
          have x0 := bz2.cell 0
          have hm2 := HM.out _ (q1.trans q2)
          simp only [List.getElem?_toArray, List.getElem?_cons_zero] at x0
          clear z0 z1 z2 b0 bz
          have BZ2 := Lib.hid bz2
          have Q12 := Lib.hid (q1.trans q2)
          have f0 := bz2.frozen 0
          clear bz2 q2 q1
          have KB : Hid (∀ x, (w1.alloc (.cells #[] 9)).grownBy x (some w1.heap.size) → Bx x wr.heap.size 45 #[.slice A1 y.b.length n1, .int .i64 y.firm, .bool y.full] ∧ Q wr x) := Lib.hid (fun x g => ⟨BZ2.out.same (g.block _ BZ2.out.lt (fun e => by injection e with e; have := hs1.out; omega)), Below.grown Q12.out g Q12.out.size (fun k hk => by injection hk with hk; have := hs1.out; omega)⟩)
          go_upto_region 11 with (at_builtin; refine wpList_append_blks _ rfl _ _ rfl w1.heap.size _ _ [] M rfl rfl own0 hm2 ?hb ?hl ?_; (case hb => simp); (case hl => simp; omega); intro v3 w3 o3 g3; rw [List.nil_append] at o3; obtain ⟨A3, c3, rfl⟩ := o3.form; have bz3 := (KB.out _ g3).1; have x3 := bz3.cell 0; have f3 := bz3.frozen 0; simp only [List.getElem?_toArray, List.getElem?_cons_zero] at x3; have O3 := Lib.hid o3; have BZ3 := Lib.hid bz3; have Q3 := Lib.hid (KB.out _ g3).2; clear o3 bz3 g3 x0 f0)
          have bz4 := BZ3.out.set 0 (.slice A3 M.length c3)
          have q4 : Q wr (w3.setCell ⟨wr.heap.size, 0, none⟩ (.slice A3 M.length c3)) := Q.set Q3.out (Nat.le_refl _) _
          have o4 : OwnT w1.heap.size (w3.setCell ⟨wr.heap.size, 0, none⟩ (.slice A3 M.length c3)) (.slice A3 M.length c3) M := ownsRow_set O3.out (by have := hs1.out; omega)
          obtain ⟨w4, hw4⟩ : ∃ z, z = w3.setCell ⟨wr.heap.size, 0, none⟩ (.slice A3 M.length c3) := ⟨_, rfl⟩
          rw [← hw4] at bz4 q4 o4
          rw [← hw4]
          clear hw4 x3 f3 hm2 own0
          obtain ⟨x0, x1, x2⟩ : w4.cell? ⟨wr.heap.size, 0, none⟩ = some (.slice A3 M.length c3) ∧ w4.cell? ⟨wr.heap.size, 1, none⟩ = some (.int .i64 y.firm) ∧ w4.cell? ⟨wr.heap.size, 2, none⟩ = some (.bool y.full) := ⟨bz4.cell 0, bz4.cell 1, bz4.cell 2⟩
          have qa := (Q.refl w4).alloc (.cells #[.slice A3 M.length c3, .int .i64 y.firm, .bool y.full] 45)
          have own5 := hown.on (q4.trans qa)
          have ap5 : OwnT W0.heap.size (w4.alloc (.cells #[.slice A3 M.length c3, .int .i64 y.firm, .bool y.full] 45)) (.slice A3 M.length c3) M := (o4.low (by have := hs1.out; omega)).on qa
          have hok5 : okZ ⟨M, y.firm, y.full⟩ := ⟨by show M.length ≤ maxLen; unfold maxLen; omega, HOKZ.out.2⟩
          have OWN5 := Lib.hid own5
          have AP5 := Lib.hid ap5
          have HOK5 := Lib.hid hok5
          have QX := Lib.hid (q.trans (q4.trans qa))
          have HSZ := Lib.hid (q.trans (q4.trans qa)).size
          clear bz4 o4 hown own5 ap5 hok5 qa q4
          have hs0 := Lib.hid hs0
          have QQ := Lib.hid q
          have hyl := Lib.hid hyl
          have hcp := Lib.hid hcp
          clear q
          go_wp2_with (at_builtin; refine wpList_snoc_rf _ rfl _ _ 22 Try.underlying22 rfl W0.heap.size w4.heap.size _ _ (⟨M, y.firm, y.full⟩, .slice A3 M.length c3) rfl rfl (cells_oneZ w4 (⟨M, y.firm, y.full⟩, .slice A3 M.length c3) 45) OWN5.out ⟨HOK5.out, AP5.out⟩ ?hb ?hl ?_; (case hb => exact HSZ.out); (case hl => omega); intro v6 w6 o6 g6)
          have q6 : Q W0 w6 := Below.grown QX.out g6 QX.out.size (fun k hk => (OWN5.out.lt k hk).1)
          have o6 : RowF W0.heap.size w6 v6 ((L.take (i + 1)).map fewZn) := by rw [HTK.out, HFW.out]; exact o6
          go_roundw
          case rel => exact ⟨i + 1, by omega, by go_num, o6, q6⟩
          case measure => simp [intOf]; omega
      · have h2 : ¬ (i : Int) < 41 := by omega
        rw [List.take_of_length_le (by have := HLZ.out; omega)] at hown
        have hw0 : w.heap.size + 1 < W0.heap.size := BY.out.lt
        have bx := BX.out.on q
        have by_ := BY.out.on q
        have f0 := bx.frozen 0
        obtain ⟨x1, x2, x3, x4, x5⟩ : wr.cell? ⟨w.heap.size, 1, none⟩ = some (.int .i64 size) ∧ wr.cell? ⟨w.heap.size, 2, none⟩ = some (.int .i64 mo) ∧ wr.cell? ⟨w.heap.size, 3, none⟩ = some (.int .i64 fuel) ∧ wr.cell? ⟨w.heap.size, 4, none⟩ = some (.bool off) ∧ wr.cell? ⟨w.heap.size, 5, none⟩ = some (.int .i64 bad) := ⟨bx.cell 1, bx.cell 2, bx.cell 3, bx.cell 4, bx.cell 5⟩
        obtain ⟨A9, c9, e9⟩ := hown.own.form
        obtain ⟨n9, hn9⟩ : ∃ n, n = (List.map fewZn L).length := ⟨_, rfl⟩
        rw [← hn9] at e9
        clear hn9
        subst e9
        have bx2 := bx.set 0 (.slice A9 n9 c9)
        have by2 := by_.other (B2 := w.heap.size) (by omega) 0 (.slice A9 n9 c9)
        have o2 := hown.set (k := 0) (u := .slice A9 n9 c9) (b := w.heap.size) (by omega)
        have q2 : Q w (wr.setCell ⟨w.heap.size, 0, none⟩ (.slice A9 n9 c9)) := Q.set (Q0.out.trans q) (Nat.le_refl _) _
        go_upto_region 13 with fail
        obtain ⟨w2, hw2⟩ : ∃ z, z = wr.setCell ⟨w.heap.size, 0, none⟩ (.slice A9 n9 c9) := ⟨_, rfl⟩
        rw [← hw2] at bx2 by2 o2 q2
        rw [← hw2]
        have hsz2 : W0.heap.size ≤ w2.heap.size := by rw [hw2]; simpa using q.size
        clear hw2 bx by_ f0 x1 x2 x3 x4 x5 b0 hown q
        obtain ⟨x0, x1, x2, x3, x4, x5⟩ : w2.cell? ⟨w.heap.size, 0, none⟩ = some (.slice A9 n9 c9) ∧ w2.cell? ⟨w.heap.size, 1, none⟩ = some (.int .i64 size) ∧ w2.cell? ⟨w.heap.size, 2, none⟩ = some (.int .i64 mo) ∧ w2.cell? ⟨w.heap.size, 3, none⟩ = some (.int .i64 fuel) ∧ w2.cell? ⟨w.heap.size, 4, none⟩ = some (.bool off) ∧ w2.cell? ⟨w.heap.size, 5, none⟩ = some (.int .i64 bad) := ⟨bx2.cell 0, bx2.cell 1, bx2.cell 2, bx2.cell 3, bx2.cell 4, bx2.cell 5⟩
        obtain ⟨y0, y1, y2, y3, y4, y5⟩ : w2.cell? ⟨w.heap.size + 1, 0, none⟩ = some (.slice none 0 0) ∧ w2.cell? ⟨w.heap.size + 1, 1, none⟩ = some (.int .i64 0) ∧ w2.cell? ⟨w.heap.size + 1, 2, none⟩ = some (.int .i64 0) ∧ w2.cell? ⟨w.heap.size + 1, 3, none⟩ = some (.int .i64 0) ∧ w2.cell? ⟨w.heap.size + 1, 4, none⟩ = some (.bool false) ∧ w2.cell? ⟨w.heap.size + 1, 5, none⟩ = some (.int .i64 0) := ⟨by2.cell 0, by2.cell 1, by2.cell 2, by2.cell 3, by2.cell 4, by2.cell 5⟩
        have f0 := by2.frozen 0
        have f1 := by2.frozen 1
        have f2 := by2.frozen 2
        have f3 := by2.frozen 3
        have f4 := by2.frozen 4
        have f5 := by2.frozen 5
        have b9 := ((((((by2.set 0 (.slice A9 n9 c9)).set 1 (.int .i64 size)).set 2 (.int .i64 mo)).set 3 (.int .i64 fuel)).set 4 (.bool off)).set 5 (.int .i64 bad))
        have o9 := ((((((o2.set (k := 0) (u := (.slice A9 n9 c9)) (b := w.heap.size + 1) hw0).set (k := 1) (u := (.int .i64 size)) (b := w.heap.size + 1) hw0).set (k := 2) (u := (.int .i64 mo)) (b := w.heap.size + 1) hw0).set (k := 3) (u := (.int .i64 fuel)) (b := w.heap.size + 1) hw0).set (k := 4) (u := (.bool off)) (b := w.heap.size + 1) hw0).set (k := 5) (u := (.int .i64 bad)) (b := w.heap.size + 1) hw0)
        have q9 : Q w ((((((w2.setCell ⟨w.heap.size + 1, 0, none⟩ (.slice A9 n9 c9)).setCell ⟨w.heap.size + 1, 1, none⟩ (.int .i64 size)).setCell ⟨w.heap.size + 1, 2, none⟩ (.int .i64 mo)).setCell ⟨w.heap.size + 1, 3, none⟩ (.int .i64 fuel)).setCell ⟨w.heap.size + 1, 4, none⟩ (.bool off)).setCell ⟨w.heap.size + 1, 5, none⟩ (.int .i64 bad)) := (Q.set (Q.set (Q.set (Q.set (Q.set (Q.set q2 (by omega) _) (by omega) _) (by omega) _) (by omega) _) (by omega) _) (by omega) _)
        obtain ⟨w9, hw9⟩ : ∃ z, z = ((((((w2.setCell ⟨w.heap.size + 1, 0, none⟩ (.slice A9 n9 c9)).setCell ⟨w.heap.size + 1, 1, none⟩ (.int .i64 size)).setCell ⟨w.heap.size + 1, 2, none⟩ (.int .i64 mo)).setCell ⟨w.heap.size + 1, 3, none⟩ (.int .i64 fuel)).setCell ⟨w.heap.size + 1, 4, none⟩ (.bool off)).setCell ⟨w.heap.size + 1, 5, none⟩ (.int .i64 bad)) := ⟨_, rfl⟩
        rw [← hw9] at b9 o9 q9
        simp only [List.setIfInBounds_toArray, List.set_cons_zero, List.set_cons_succ] at b9
        have rd := o9.own.zns (by rw [hw9]; simpa using hsz2)
        clear hsz2
        have RD := Lib.hid rd
        have Q9 := Lib.hid q9
        have B9 := Lib.hid b9
        clear bx2 by2 o2 o9 q9 q2 b9 rd
        go_wp2_with fail
        rw [← hw9]
        clear hw9
        obtain ⟨k0, k1, k2, k3, k4, k5⟩ : w9.cell? ⟨w.heap.size + 1, 0, none⟩ = some (.slice A9 n9 c9) ∧ w9.cell? ⟨w.heap.size + 1, 1, none⟩ = some (.int .i64 size) ∧ w9.cell? ⟨w.heap.size + 1, 2, none⟩ = some (.int .i64 mo) ∧ w9.cell? ⟨w.heap.size + 1, 3, none⟩ = some (.int .i64 fuel) ∧ w9.cell? ⟨w.heap.size + 1, 4, none⟩ = some (.bool off) ∧ w9.cell? ⟨w.heap.size + 1, 5, none⟩ = some (.int .i64 bad) := ⟨B9.out.cell 0, B9.out.cell 1, B9.out.cell 2, B9.out.cell 3, B9.out.cell 4, B9.out.cell 5⟩
        (try simp only [Exit.inBlock, Exit.then])
        refine bodyPost_ret (v := .agg #[.slice A9 n9 c9, .int .i64 size, .int .i64 mo, .int .i64 fuel, .bool off, .int .i64 bad]) ?_ rfl ⟨_, rfl, by rw [← List.map_take, HEQ.out]; exact RD.out, Q9.out⟩
        simp [results, Try.results9, go_sem] at k0 k1 k2 k3 k4 k5 ⊢
        simp [k0, k1, k2, k3, k4, k5]
  · have hbig' : ¬ (41 : Int) < (zs.length : Int) := by omega
    have HZ : Hid (Zns w w.heap.size (.slice A0 zs.length c0) zs) := Lib.hid HT.out
    have OKZ : Hid (∀ x ∈ zs, okZ x) := Lib.hid OKA.out
    have hz41 : zs.length ≤ 41 := by omega
    have HLZ : Hid (zs.length = zs.length) := Lib.hid rfl
    have HEQ : Hid (zs.take 41 = zs) := Lib.hid (List.take_of_length_le hz41)
    clear HT OKA hz41
    have bx := (Bx.new w 24 #[.slice A0 zs.length c0, .int .i64 size, .int .i64 mo, .int .i64 fuel, .bool off, .int .i64 bad]).alloc (.cells #[.slice none 0 0, .int .i64 0, .int .i64 0, .int .i64 0, .bool false, .int .i64 0] 24)
    have by_ := Bx.new (w.alloc (.cells #[.slice A0 zs.length c0, .int .i64 size, .int .i64 mo, .int .i64 fuel, .bool off, .int .i64 bad] 24)) 24 #[.slice none 0 0, .int .i64 0, .int .i64 0, .int .i64 0, .bool false, .int .i64 0]
    have q0 := ((Q.refl w).alloc (.cells #[.slice A0 zs.length c0, .int .i64 size, .int .i64 mo, .int .i64 fuel, .bool off, .int .i64 bad] 24)).alloc (.cells #[.slice none 0 0, .int .i64 0, .int .i64 0, .int .i64 0, .bool false, .int .i64 0] 24)
    rw [World.size_alloc] at by_
    obtain ⟨W0, hW0⟩ : ∃ z, z = (w.alloc (.cells #[.slice A0 zs.length c0, .int .i64 size, .int .i64 mo, .int .i64 fuel, .bool off, .int .i64 bad] 24)).alloc (.cells #[.slice none 0 0, .int .i64 0, .int .i64 0, .int .i64 0, .bool false, .int .i64 0] 24) := ⟨_, rfl⟩
    rw [← hW0] at bx by_ q0
    have BX := Lib.hid bx
    have BY := Lib.hid by_
    have Q0 := Lib.hid q0
    clear bx by_ q0
    go_enter Try.func9, Try.ntmps9
    go_upto_region 3 with fail
    rw [← hW0]
    clear hW0
    go_wp2_with fail
    go_loopw [3, 4] (fun O I wr => ∃ i : Nat, i ≤ zs.length ∧ I = .int .i64 i ∧ RowF W0.heap.size wr O ((zs.take i).map fewZn) ∧ Q W0 wr) (fun _ I _ => zs.length - (intOf I).toNat)
    case atStart => exact ⟨0, Nat.zero_le _, rfl, RowF.nil _ _, Q.refl _⟩
    case round =>
      obtain ⟨i, hil, rfl, hown, q⟩ := hrel
      have b0 : wr.cell? ⟨w.heap.size, 0, none⟩ = some (.slice A0 zs.length c0) := (BX.out.on q).cell 0
      by_cases hlt : i < zs.length
      · have hilt : (i : Int) < (zs.length : Int) := by omega
        have hlt2 : i < zs.length := by have := HLZ.out; omega
        obtain ⟨a, c1, A1, n1, e1, ha, hok, hat⟩ := HZ.out.pick i hlt2
        injection e1 with e1 e2 e3
        subst e1 e3
        clear e2
        have hyl := hok.1
        unfold maxLen at hyl
        obtain ⟨z0, z1, z2, -⟩ := hat wr (Q0.out.trans q)
        have HTK := Lib.hid (fewZn_take zs i hlt2)
        have HOKZ := Lib.hid hok
        have HBK : Hid (∀ x, Q wr x → Blks x x.heap.size (.slice A1 zs[i].b.length n1) zs[i].b) := Lib.hid (fun x qx => (hat x ((Q0.out.trans q).trans qx)).2.2.2)
        have hcp : zs[i].b.length ≤ n1 := by
          obtain ⟨A2, c2, e, h, -⟩ := (hat w (Q.refl w)).2.2.2
          injection e with e1 e2 e3
          subst e3
          exact h
        obtain ⟨y, hy⟩ : ∃ y, y = zs[i] := ⟨_, rfl⟩
        rw [← hy] at z0 z1 z2 HTK HOKZ HBK hyl hcp
        clear hat hy hok
        have hs0 : W0.heap.size ≤ wr.heap.size := q.size
        have hRL : ((zs.take i).map fewZn).length ≤ 100 := by rw [List.length_map, List.length_take]; have := HLZ.out; omega
        by_cases hb : 301 < y.b.length
        · have hb' : (301 : Int) < (y.b.length : Int) := by omega
          have hn1 : (301 : Int) ≤ (n1 : Int) := by omega
          have HM : Hid (∀ x, Q wr x → Blks x x.heap.size (.slice A1 301 n1) (y.b.take 301)) := Lib.hid (fun x qx => (HBK.out x qx).cutTake (by omega))
          have hml : (y.b.take 301).length = 301 := by rw [List.length_take]; omega
          have HFW : Hid (fewZn y = ⟨y.b.take 301, y.firm, y.full⟩) := Lib.hid rfl
          obtain ⟨M, hM⟩ : ∃ M, M = y.b.take 301 := ⟨_, rfl⟩
          rw [← hM] at HM hml HFW
          have HML := Lib.hid hml
          have hM3 : M.length ≤ 301 := by omega
          clear hM hml HBK
          have bz := Bx.new wr 45 #[.slice A1 301 n1, .int .i64 y.firm, .bool y.full]
          have q1 := (Q.refl wr).alloc (.cells #[.slice A1 301 n1, .int .i64 y.firm, .bool y.full] 45)
          obtain ⟨w1, hw1⟩ : ∃ z, z = wr.alloc (.cells #[.slice A1 301 n1, .int .i64 y.firm, .bool y.full] 45) := ⟨_, rfl⟩
          rw [← hw1] at bz q1
          have hs1 : Hid (w1.heap.size = wr.heap.size + 1) := Lib.hid (by rw [hw1]; simp)
          go_upto_region 10 with fail
          rw [← hw1]
          clear hw1
          have own0 := noneT_made w1
          have q2 := (Q.refl w1).alloc (.cells #[] 9)
          have bz2 := bz.on q2
          have x0 := bz2.cell 0
          have hm2 := HM.out _ (q1.trans q2)
          simp only [List.getElem?_toArray, List.getElem?_cons_zero] at x0
          clear z0 z1 z2 b0 bz
          have BZ2 := Lib.hid bz2
          have Q12 := Lib.hid (q1.trans q2)
          have f0 := bz2.frozen 0
          clear bz2 q2 q1
          have KB : Hid (∀ x, (w1.alloc (.cells #[] 9)).grownBy x (some w1.heap.size) → Bx x wr.heap.size 45 #[.slice A1 301 n1, .int .i64 y.firm, .bool y.full] ∧ Q wr x) := Lib.hid (fun x g => ⟨BZ2.out.same (g.block _ BZ2.out.lt (fun e => by injection e with e; have := hs1.out; omega)), Below.grown Q12.out g Q12.out.size (fun k hk => by injection hk with hk; have := hs1.out; omega)⟩)
          go_upto_region 11 with (at_builtin; refine wpList_append_blks _ rfl _ _ rfl w1.heap.size _ _ [] M rfl rfl own0 hm2 ?hb ?hl ?_; (case hb => simp); (case hl => simp; omega); intro v3 w3 o3 g3; rw [List.nil_append] at o3; obtain ⟨A3, c3, rfl⟩ := o3.form; have bz3 := (KB.out _ g3).1; have x3 := bz3.cell 0; have f3 := bz3.frozen 0; simp only [List.getElem?_toArray, List.getElem?_cons_zero] at x3; have O3 := Lib.hid o3; have BZ3 := Lib.hid bz3; have Q3 := Lib.hid (KB.out _ g3).2; clear o3 bz3 g3 x0 f0)
          have bz4 := BZ3.out.set 0 (.slice A3 M.length c3)
          have q4 : Q wr (w3.setCell ⟨wr.heap.size, 0, none⟩ (.slice A3 M.length c3)) := Q.set Q3.out (Nat.le_refl _) _
          have o4 : OwnT w1.heap.size (w3.setCell ⟨wr.heap.size, 0, none⟩ (.slice A3 M.length c3)) (.slice A3 M.length c3) M := ownsRow_set O3.out (by have := hs1.out; omega)
          obtain ⟨w4, hw4⟩ : ∃ z, z = w3.setCell ⟨wr.heap.size, 0, none⟩ (.slice A3 M.length c3) := ⟨_, rfl⟩
          rw [← hw4] at bz4 q4 o4
          rw [← hw4]
          clear hw4 x3 f3 hm2 own0
          obtain ⟨x0, x1, x2⟩ : w4.cell? ⟨wr.heap.size, 0, none⟩ = some (.slice A3 M.length c3) ∧ w4.cell? ⟨wr.heap.size, 1, none⟩ = some (.int .i64 y.firm) ∧ w4.cell? ⟨wr.heap.size, 2, none⟩ = some (.bool y.full) := ⟨bz4.cell 0, bz4.cell 1, bz4.cell 2⟩
          have qa := (Q.refl w4).alloc (.cells #[.slice A3 M.length c3, .int .i64 y.firm, .bool y.full] 45)
          have own5 := hown.on (q4.trans qa)
          have ap5 : OwnT W0.heap.size (w4.alloc (.cells #[.slice A3 M.length c3, .int .i64 y.firm, .bool y.full] 45)) (.slice A3 M.length c3) M := (o4.low (by have := hs1.out; omega)).on qa
          have hok5 : okZ ⟨M, y.firm, y.full⟩ := ⟨by show M.length ≤ maxLen; unfold maxLen; omega, HOKZ.out.2⟩
          have OWN5 := Lib.hid own5
          have AP5 := Lib.hid ap5
          have HOK5 := Lib.hid hok5
          have QX := Lib.hid (q.trans (q4.trans qa))
          have HSZ := Lib.hid (q.trans (q4.trans qa)).size
          clear bz4 o4 hown own5 ap5 hok5 qa q4
          have hs0 := Lib.hid hs0
          have QQ := Lib.hid q
          have hyl := Lib.hid hyl
          have hcp := Lib.hid hcp
          clear q
          go_wp2_with (at_builtin; refine wpList_snoc_rf _ rfl _ _ 22 Try.underlying22 rfl W0.heap.size w4.heap.size _ _ (⟨M, y.firm, y.full⟩, .slice A3 M.length c3) rfl rfl (cells_oneZ w4 (⟨M, y.firm, y.full⟩, .slice A3 M.length c3) 45) OWN5.out ⟨HOK5.out, AP5.out⟩ ?hb ?hl ?_; (case hb => exact HSZ.out); (case hl => omega); intro v6 w6 o6 g6)
          have q6 : Q W0 w6 := Below.grown QX.out g6 QX.out.size (fun k hk => (OWN5.out.lt k hk).1)
          have o6 : RowF W0.heap.size w6 v6 ((zs.take (i + 1)).map fewZn) := by rw [HTK.out, HFW.out]; exact o6
          go_roundw
          case rel => exact ⟨i + 1, by omega, by go_num, o6, q6⟩
          case measure => simp [intOf]; omega
        · have hb' : ¬ (301 : Int) < (y.b.length : Int) := by omega
          have HM : Hid (∀ x, Q wr x → Blks x x.heap.size (.slice A1 y.b.length n1) (y.b.take 301)) := Lib.hid (fun x qx => by rw [List.take_of_length_le (by omega)]; exact HBK.out x qx)
          have hml : (y.b.take 301).length = y.b.length := by rw [List.length_take]; omega
          have HFW : Hid (fewZn y = ⟨y.b.take 301, y.firm, y.full⟩) := Lib.hid rfl
          obtain ⟨M, hM⟩ : ∃ M, M = y.b.take 301 := ⟨_, rfl⟩
          rw [← hM] at HM hml HFW
          have HML := Lib.hid hml
          have hM3 : M.length ≤ 301 := by omega
          clear hM hml HBK
          have bz := Bx.new wr 45 #[.slice A1 y.b.length n1, .int .i64 y.firm, .bool y.full]
          have q1 := (Q.refl wr).alloc (.cells #[.slice A1 y.b.length n1, .int .i64 y.firm, .bool y.full] 45)
          obtain ⟨w1, hw1⟩ : ∃ z, z = wr.alloc (.cells #[.slice A1 y.b.length n1, .int .i64 y.firm, .bool y.full] 45) := ⟨_, rfl⟩
          rw [← hw1] at bz q1
          have hs1 : Hid (w1.heap.size = wr.heap.size + 1) := Lib.hid (by rw [hw1]; simp)
          go_upto_region 10 with fail
          rw [← hw1]
          clear hw1
          have own0 := noneT_made w1
          have q2 := (Q.refl w1).alloc (.cells #[] 9)
          have bz2 := bz.on q2
          have x0 := bz2.cell 0
          have hm2 := HM.out _ (q1.trans q2)
          simp only [List.getElem?_toArray, List.getElem?_cons_zero] at x0
          clear z0 z1 z2 b0 bz
          have BZ2 := Lib.hid bz2
          have Q12 := Lib.hid (q1.trans q2)
          have f0 := bz2.frozen 0
          clear bz2 q2 q1
          have KB : Hid (∀ x, (w1.alloc (.cells #[] 9)).grownBy x (some w1.heap.size) → Bx x wr.heap.size 45 #[.slice A1 y.b.length n1, .int .i64 y.firm, .bool y.full] ∧ Q wr x) := Lib.hid (fun x g => ⟨BZ2.out.same (g.block _ BZ2.out.lt (fun e => by injection e with e; have := hs1.out; omega)), Below.grown Q12.out g Q12.out.size (fun k hk => by injection hk with hk; have := hs1.out; omega)⟩)
          go_upto_region 11 with (at_builtin; refine wpList_append_blks _ rfl _ _ rfl w1.heap.size _ _ [] M rfl rfl own0 hm2 ?hb ?hl ?_; (case hb => simp); (case hl => simp; omega); intro v3 w3 o3 g3; rw [List.nil_append] at o3; obtain ⟨A3, c3, rfl⟩ := o3.form; have bz3 := (KB.out _ g3).1; have x3 := bz3.cell 0; have f3 := bz3.frozen 0; simp only [List.getElem?_toArray, List.getElem?_cons_zero] at x3; have O3 := Lib.hid o3; have BZ3 := Lib.hid bz3; have Q3 := Lib.hid (KB.out _ g3).2; clear o3 bz3 g3 x0 f0)
          have bz4 := BZ3.out.set 0 (.slice A3 M.length c3)
          have q4 : Q wr (w3.setCell ⟨wr.heap.size, 0, none⟩ (.slice A3 M.length c3)) := Q.set Q3.out (Nat.le_refl _) _
          have o4 : OwnT w1.heap.size (w3.setCell ⟨wr.heap.size, 0, none⟩ (.slice A3 M.length c3)) (.slice A3 M.length c3) M := ownsRow_set O3.out (by have := hs1.out; omega)
          obtain ⟨w4, hw4⟩ : ∃ z, z = w3.setCell ⟨wr.heap.size, 0, none⟩ (.slice A3 M.length c3) := ⟨_, rfl⟩
          rw [← hw4] at bz4 q4 o4
          rw [← hw4]
          clear hw4 x3 f3 hm2 own0
          obtain ⟨x0, x1, x2⟩ : w4.cell? ⟨wr.heap.size, 0, none⟩ = some (.slice A3 M.length c3) ∧ w4.cell? ⟨wr.heap.size, 1, none⟩ = some (.int .i64 y.firm) ∧ w4.cell? ⟨wr.heap.size, 2, none⟩ = some (.bool y.full) := ⟨bz4.cell 0, bz4.cell 1, bz4.cell 2⟩
          have qa := (Q.refl w4).alloc (.cells #[.slice A3 M.length c3, .int .i64 y.firm, .bool y.full] 45)
          have own5 := hown.on (q4.trans qa)
          have ap5 : OwnT W0.heap.size (w4.alloc (.cells #[.slice A3 M.length c3, .int .i64 y.firm, .bool y.full] 45)) (.slice A3 M.length c3) M := (o4.low (by have := hs1.out; omega)).on qa
          have hok5 : okZ ⟨M, y.firm, y.full⟩ := ⟨by show M.length ≤ maxLen; unfold maxLen; omega, HOKZ.out.2⟩
          have OWN5 := Lib.hid own5
          have AP5 := Lib.hid ap5
          have HOK5 := Lib.hid hok5
          have QX := Lib.hid (q.trans (q4.trans qa))
          have HSZ := Lib.hid (q.trans (q4.trans qa)).size
          clear bz4 o4 hown own5 ap5 hok5 qa q4
          have hs0 := Lib.hid hs0
          have QQ := Lib.hid q
          have hyl := Lib.hid hyl
          have hcp := Lib.hid hcp
          clear q
          go_wp2_with (at_builtin; refine wpList_snoc_rf _ rfl _ _ 22 Try.underlying22 rfl W0.heap.size w4.heap.size _ _ (⟨M, y.firm, y.full⟩, .slice A3 M.length c3) rfl rfl (cells_oneZ w4 (⟨M, y.firm, y.full⟩, .slice A3 M.length c3) 45) OWN5.out ⟨HOK5.out, AP5.out⟩ ?hb ?hl ?_; (case hb => exact HSZ.out); (case hl => omega); intro v6 w6 o6 g6)
          have q6 : Q W0 w6 := Below.grown QX.out g6 QX.out.size (fun k hk => (OWN5.out.lt k hk).1)
          have o6 : RowF W0.heap.size w6 v6 ((zs.take (i + 1)).map fewZn) := by rw [HTK.out, HFW.out]; exact o6
          go_roundw
          case rel => exact ⟨i + 1, by omega, by go_num, o6, q6⟩
          case measure => simp [intOf]; omega
      · have h2 : ¬ (i : Int) < (zs.length : Int) := by omega
        rw [List.take_of_length_le (by have := HLZ.out; omega)] at hown
        have hw0 : w.heap.size + 1 < W0.heap.size := BY.out.lt
        have bx := BX.out.on q
        have by_ := BY.out.on q
        have f0 := bx.frozen 0
        obtain ⟨x1, x2, x3, x4, x5⟩ : wr.cell? ⟨w.heap.size, 1, none⟩ = some (.int .i64 size) ∧ wr.cell? ⟨w.heap.size, 2, none⟩ = some (.int .i64 mo) ∧ wr.cell? ⟨w.heap.size, 3, none⟩ = some (.int .i64 fuel) ∧ wr.cell? ⟨w.heap.size, 4, none⟩ = some (.bool off) ∧ wr.cell? ⟨w.heap.size, 5, none⟩ = some (.int .i64 bad) := ⟨bx.cell 1, bx.cell 2, bx.cell 3, bx.cell 4, bx.cell 5⟩
        obtain ⟨A9, c9, e9⟩ := hown.own.form
        obtain ⟨n9, hn9⟩ : ∃ n, n = (List.map fewZn zs).length := ⟨_, rfl⟩
        rw [← hn9] at e9
        clear hn9
        subst e9
        have bx2 := bx.set 0 (.slice A9 n9 c9)
        have by2 := by_.other (B2 := w.heap.size) (by omega) 0 (.slice A9 n9 c9)
        have o2 := hown.set (k := 0) (u := .slice A9 n9 c9) (b := w.heap.size) (by omega)
        have q2 : Q w (wr.setCell ⟨w.heap.size, 0, none⟩ (.slice A9 n9 c9)) := Q.set (Q0.out.trans q) (Nat.le_refl _) _
        go_upto_region 13 with fail
        obtain ⟨w2, hw2⟩ : ∃ z, z = wr.setCell ⟨w.heap.size, 0, none⟩ (.slice A9 n9 c9) := ⟨_, rfl⟩
        rw [← hw2] at bx2 by2 o2 q2
        rw [← hw2]
        have hsz2 : W0.heap.size ≤ w2.heap.size := by rw [hw2]; simpa using q.size
        clear hw2 bx by_ f0 x1 x2 x3 x4 x5 b0 hown q
        obtain ⟨x0, x1, x2, x3, x4, x5⟩ : w2.cell? ⟨w.heap.size, 0, none⟩ = some (.slice A9 n9 c9) ∧ w2.cell? ⟨w.heap.size, 1, none⟩ = some (.int .i64 size) ∧ w2.cell? ⟨w.heap.size, 2, none⟩ = some (.int .i64 mo) ∧ w2.cell? ⟨w.heap.size, 3, none⟩ = some (.int .i64 fuel) ∧ w2.cell? ⟨w.heap.size, 4, none⟩ = some (.bool off) ∧ w2.cell? ⟨w.heap.size, 5, none⟩ = some (.int .i64 bad) := ⟨bx2.cell 0, bx2.cell 1, bx2.cell 2, bx2.cell 3, bx2.cell 4, bx2.cell 5⟩
        obtain ⟨y0, y1, y2, y3, y4, y5⟩ : w2.cell? ⟨w.heap.size + 1, 0, none⟩ = some (.slice none 0 0) ∧ w2.cell? ⟨w.heap.size + 1, 1, none⟩ = some (.int .i64 0) ∧ w2.cell? ⟨w.heap.size + 1, 2, none⟩ = some (.int .i64 0) ∧ w2.cell? ⟨w.heap.size + 1, 3, none⟩ = some (.int .i64 0) ∧ w2.cell? ⟨w.heap.size + 1, 4, none⟩ = some (.bool false) ∧ w2.cell? ⟨w.heap.size + 1, 5, none⟩ = some (.int .i64 0) := ⟨by2.cell 0, by2.cell 1, by2.cell 2, by2.cell 3, by2.cell 4, by2.cell 5⟩
        have f0 := by2.frozen 0
        have f1 := by2.frozen 1
        have f2 := by2.frozen 2
        have f3 := by2.frozen 3
        have f4 := by2.frozen 4
        have f5 := by2.frozen 5
        have b9 := ((((((by2.set 0 (.slice A9 n9 c9)).set 1 (.int .i64 size)).set 2 (.int .i64 mo)).set 3 (.int .i64 fuel)).set 4 (.bool off)).set 5 (.int .i64 bad))
        have o9 := ((((((o2.set (k := 0) (u := (.slice A9 n9 c9)) (b := w.heap.size + 1) hw0).set (k := 1) (u := (.int .i64 size)) (b := w.heap.size + 1) hw0).set (k := 2) (u := (.int .i64 mo)) (b := w.heap.size + 1) hw0).set (k := 3) (u := (.int .i64 fuel)) (b := w.heap.size + 1) hw0).set (k := 4) (u := (.bool off)) (b := w.heap.size + 1) hw0).set (k := 5) (u := (.int .i64 bad)) (b := w.heap.size + 1) hw0)
        have q9 : Q w ((((((w2.setCell ⟨w.heap.size + 1, 0, none⟩ (.slice A9 n9 c9)).setCell ⟨w.heap.size + 1, 1, none⟩ (.int .i64 size)).setCell ⟨w.heap.size + 1, 2, none⟩ (.int .i64 mo)).setCell ⟨w.heap.size + 1, 3, none⟩ (.int .i64 fuel)).setCell ⟨w.heap.size + 1, 4, none⟩ (.bool off)).setCell ⟨w.heap.size + 1, 5, none⟩ (.int .i64 bad)) := (Q.set (Q.set (Q.set (Q.set (Q.set (Q.set q2 (by omega) _) (by omega) _) (by omega) _) (by omega) _) (by omega) _) (by omega) _)
        obtain ⟨w9, hw9⟩ : ∃ z, z = ((((((w2.setCell ⟨w.heap.size + 1, 0, none⟩ (.slice A9 n9 c9)).setCell ⟨w.heap.size + 1, 1, none⟩ (.int .i64 size)).setCell ⟨w.heap.size + 1, 2, none⟩ (.int .i64 mo)).setCell ⟨w.heap.size + 1, 3, none⟩ (.int .i64 fuel)).setCell ⟨w.heap.size + 1, 4, none⟩ (.bool off)).setCell ⟨w.heap.size + 1, 5, none⟩ (.int .i64 bad)) := ⟨_, rfl⟩
        rw [← hw9] at b9 o9 q9
        simp only [List.setIfInBounds_toArray, List.set_cons_zero, List.set_cons_succ] at b9
        have rd := o9.own.zns (by rw [hw9]; simpa using hsz2)
        clear hsz2
        have RD := Lib.hid rd
        have Q9 := Lib.hid q9
        have B9 := Lib.hid b9
        clear bx2 by2 o2 o9 q9 q2 b9 rd
        go_wp2_with fail
        rw [← hw9]
        clear hw9
        obtain ⟨k0, k1, k2, k3, k4, k5⟩ : w9.cell? ⟨w.heap.size + 1, 0, none⟩ = some (.slice A9 n9 c9) ∧ w9.cell? ⟨w.heap.size + 1, 1, none⟩ = some (.int .i64 size) ∧ w9.cell? ⟨w.heap.size + 1, 2, none⟩ = some (.int .i64 mo) ∧ w9.cell? ⟨w.heap.size + 1, 3, none⟩ = some (.int .i64 fuel) ∧ w9.cell? ⟨w.heap.size + 1, 4, none⟩ = some (.bool off) ∧ w9.cell? ⟨w.heap.size + 1, 5, none⟩ = some (.int .i64 bad) := ⟨B9.out.cell 0, B9.out.cell 1, B9.out.cell 2, B9.out.cell 3, B9.out.cell 4, B9.out.cell 5⟩
        (try simp only [Exit.inBlock, Exit.then])
        refine bodyPost_ret (v := .agg #[.slice A9 n9 c9, .int .i64 size, .int .i64 mo, .int .i64 fuel, .bool off, .int .i64 bad]) ?_ rfl ⟨_, rfl, by rw [← List.map_take, HEQ.out]; exact RD.out, Q9.out⟩
        simp [results, Try.results9, go_sem] at k0 k1 k2 k3 k4 k5 ⊢
        simp [k0, k1, k2, k3, k4, k5]
end Go.Proofs.Yteoondmakdghhaa

