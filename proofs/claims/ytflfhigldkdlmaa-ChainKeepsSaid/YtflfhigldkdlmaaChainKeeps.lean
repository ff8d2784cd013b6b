/-
  Proved: whatever acts ChainKeeps is called with, it returns true and leaves what it was given as it was. No condition.
-/
import Derived.Test.YtflfhigldkdlmaaVMap
namespace Go.Proofs.Ytflfhigldkdlmaa.chainKeeps
open Go.ChangeShapes Go.WideShapes Go.ChangeAt Go.RowKit
open Go.ChangeMaps (open_string shut_string)
set_option linter.unusedVariables false
set_option linter.unusedSimpArgs false

set_option maxHeartbeats 4000000 in
set_option maxRecDepth 100000 in
theorem walk (l : List Act') (v : Value) (w : World) (t0 : Acts w w.heap.size v l) (z0 : l.length ≤ maxLen) :
    Calls Try.prog 5 #[v] w fun e w' => e = .returned (.bool true) ∧ Q w w' := by
  unfold maxLen at z0
  obtain ⟨A, c, rfl, hoa, hcs⟩ := t0
  have HC := Lib.hid hcs
  have HA := Lib.hid hoa
  clear hcs hoa
  have hmm := @run_makeMap Try.prog
  have q0 : Q w (w.alloc (.map #[] 0)) := (Q.refl w).alloc _
  go_enter Try.func5, Try.ntmps5
  go_wp2_with fail
  go_loopw [3, 5, 6, 7, 8, 9, 10, 11, 12, 13, 14, 15, 16] (fun C I _ _ _ _ _ _ _ _ _ _ _ wr => ∃ (i : Nat) (m : List Ver) (es : Array MapEntry) (clock : Nat), i ≤ l.length ∧ i ≤ 30 ∧ I = .int .i64 i ∧ OwnV (w.heap.size + 1) wr C m ∧ Hid (KeepI m i) ∧ wr.heap[w.heap.size]? = some (.map es clock) ∧ Hid (LaidI m i es clock) ∧ Q w wr) (fun _ I _ _ _ _ _ _ _ _ _ _ _ _ => 30 - (intOf I).toNat)
  case atStart => exact ⟨0, [], #[], 0, Nat.zero_le _, by omega, rfl, OwnV.nil _ _, Lib.hid keep_nil, heap_alloc_new w _, Lib.hid laid_nil, q0⟩
  case round =>
    obtain ⟨i, m, es, clock, hil, hi30, rfl, ho, HK, hmap, HL, q⟩ := hrel
    clear hmm
    by_cases hlt : i < l.length
    · by_cases h30 : i < 30
      · obtain ⟨a, rfl, ha, hat⟩ := HC.out i hlt
        have hilt : (i : Int) < (l.length : Int) := by omega
        have hi30' : (i : Int) < 30 := by omega
        obtain ⟨x, hx⟩ : ∃ x, x = l[i] := ⟨_, rfl⟩
        have hax := HA.out _ (List.getElem_mem hlt)
        rw [← hx] at hat hax
        have AT : Hid (∀ b, Q w b → AtA b (a.add (i * 3)) x) := Lib.hid (fun b q => hat.keep (by rw [add_block]; exact ha) fun _ hp => q.cell hp)
        clear hat hx
        obtain ⟨dd, hdd, hsz⟩ := oneV_form (i + 1) x.data false i
        have hok0 : okV ⟨i + 1, x.data, false, (i : Int)⟩ := ⟨by show i + 1 < 18446744073709551616; omega, hax.2, by show -9223372036854775808 ≤ (i : Int); omega, by show (i : Int) ≤ 9223372036854775807; omega⟩
        have hok : okV ⟨i + 1, dd, false, (i : Int)⟩ := by rw [← hdd]; exact oneV_ok hok0
        have ON : Hid (∀ b, Calls Try.prog 11 #[.agg #[.int .u64 ((i : Int) + 1), .string x.data, .bool false, .int .i64 (i : Nat)]] b fun e w' => e = .returned (.agg #[.int .u64 ((i : Int) + 1), .string dd, .bool false, .int .i64 (i : Nat)]) ∧ Q b w') := Lib.hid (fun b => by
          have := one_any ⟨i + 1, x.data, false, i⟩ b hok0
          rw [hdd] at this
          exact this)
        clear hdd hok0
        obtain ⟨c0, c1, c2⟩ := AT.out _ q
        cases hdel : x.del
        case true =>
          rw [hdel] at c1
          go_wp2_with fail
          refine (ON.out _).mono ?_
          rintro e w1 ⟨rfl, q1⟩
          obtain ⟨s, hs⟩ : ∃ s : Int, s = (x.st : Int) % 3 := ⟨_, rfl⟩
          rw [← hs]
          have hs0 : 0 ≤ s := by omega
          have hs2 : s ≤ 2 := by omega
          have HX := Lib.hid hdel
          clear hs hdel c0 c1 c2 ON
          have qg : Q w w1 := q.trans q1
          have hg : w.heap.size < w1.heap.size := by have := lt_of_block hmap; have := q1.size; omega
          have qb := qg.alloc (.cells #[.int .u64 ((i : Int) + 1), .string ⟨#[]⟩, .bool true, .int .i64 (i : Nat)] 25)
          have hob := OwnV.on ho (q1.alloc (.cells #[.int .u64 ((i : Int) + 1), .string ⟨#[]⟩, .bool true, .int .i64 (i : Nat)] 25))
          have hmb : (w1.alloc (.cells #[.int .u64 ((i : Int) + 1), .string ⟨#[]⟩, .bool true, .int .i64 (i : Nat)] 25)).heap[w.heap.size]? = some (.map es clock) := (Below.block (q1.alloc _) _ (lt_of_block hmap)).trans hmap
          have tm := Lib.hid (hob.vers HK.out.2.1)
          have hml : m.length ≤ 900 := by have := HK.out.1.1; omega
          obtain ⟨d0, d1, d2⟩ := AT.out _ (qg.alloc (.cells #[.int .u64 ((i : Int) + 1), .string dd, .bool false, .int .i64 (i : Nat)] 25))
          rw [HX.out] at d1
          rcases (show s = 0 ∨ s = 1 ∨ s = 2 by omega) with rfl | rfl | rfl
          · obtain ⟨L, e, hD⟩ := dropC_ex m 0
            have OUT := keep_drop HK.out hD
            have hLok := Lib.hid (dropC_okV hD HK.out.2.1)
            have CA := Lib.hid (delete_any m _ 0 (i + 1) i _ L e (.inl ⟨rfl, hD⟩) hml (by omega) (by omega) (by omega) tm.out)
            clear hD
            obtain ⟨A3, c3, rfl⟩ := own_len hob
            rcases OUT with R | K
            · as_aux_lemma =>
                obtain ⟨R0, R6, R4, R1⟩ := R
                have r0 : ((e : Int) != 0) = true := by
                  have : ¬ (e : Int) = 0 := by omega
                  simpa using this
                go_wp2_with fail
                refine (CA.out).mono ?_
                rintro e' w2 ⟨v2, rfl, o2, q2⟩
                obtain ⟨e0, e1, e2⟩ := AT.out _ (qb.trans q2)
                rw [HX.out] at e1
                obtain ⟨b0, b1, b2, b3⟩ := box_of q2
                have hm2 : w2.heap[w.heap.size]? = some (.map es clock) := (Below.block q2 _ (lt_of_block hmb)).trans hmb
                by_cases h6 : e = 6
                · have h20 : ¬ (m.length : Int) < 20 := by have := R6 h6; omega
                  subst h6
                  clear R0 R6 R4 R1 r0
                  go_wp2
                  go_roundw
                  case rel => exact ⟨i + 1, m, es, clock, by omega, by omega, by go_num, OwnV.on hob q2, Lib.hid HK.out.more, hm2, Lib.hid HL.out.more, qb.trans q2⟩
                  case measure => simp [intOf]; omega
                · have n6 : ((e : Int) == 6) = false := by
                    have : ¬ (e : Int) = 6 := by omega
                    simpa using this
                  by_cases h4 : e = 4
                  · subst h4
                    clear R0 R6 R4 R1 r0 n6
                    go_wp2
                    go_roundw
                    case rel => exact ⟨i + 1, m, es, clock, by omega, by omega, by go_num, OwnV.on hob q2, Lib.hid HK.out.more, hm2, Lib.hid HL.out.more, qb.trans q2⟩
                    case measure => simp [intOf]; omega
                  · have h1 : e ≠ 1 := fun k => by have h : 2000 < 0 := R1 k; omega
                    have n4 : ((e : Int) == 4) = false := by
                      have : ¬ (e : Int) = 4 := by omega
                      simpa using this
                    have n1 : ((e : Int) == 1) = false := by
                      have : ¬ (e : Int) = 1 := by omega
                      simpa using this
                    go_wp2
                    go_roundw
                    case rel => exact ⟨i + 1, m, es, clock, by omega, by omega, by go_num, OwnV.on hob q2, Lib.hid HK.out.more, hm2, Lib.hid HL.out.more, qb.trans q2⟩
                    case measure => simp [intOf]; omega
            · as_aux_lemma =>
                obtain ⟨rfl, K1⟩ := K
                have hbase : w1.heap.size < (w1.alloc (.cells #[.int .u64 ((i : Int) + 1), .string ⟨#[]⟩, .bool true, .int .i64 (i : Nat)] 25)).heap.size := by simp
                have hm2' : ∀ b, Q (w1.alloc (.cells #[.int .u64 ((i : Int) + 1), .string ⟨#[]⟩, .bool true, .int .i64 (i : Nat)] 25)) b → b.heap[w.heap.size]? = some (.map es clock) := fun b q => (Below.block q _ (lt_of_block hmb)).trans hmb
                go_wp2_with fail
                refine (CA.out).mono ?_
                rintro e' w2 ⟨v2, rfl, o2, q2⟩
                have hm2 := hm2' _ q2
                have HB := blk_of q2
                obtain ⟨b0, b1, b2, b3⟩ := box_of q2
                obtain ⟨f0, f1, f2, f3⟩ := box_free q2
                go_wp2_with fail
                have om := o2.setAt (k := 0) (u := .int .u64 0) hbase
                have qm := (qb.trans q2).set (k := 0) (Nat.le_of_lt hg) (.int .u64 0)
                have hmm : (w2.setCell ⟨w1.heap.size, 0, none⟩ (.int .u64 0)).heap[w.heap.size]? = some (.map es clock) := by
                  refine Eq.trans ?_ hm2
                  show (w2.heap.modify w1.heap.size _)[w.heap.size]? = _
                  rw [Array.getElem?_modify, if_neg (by omega)]
                have HBm := blk_step (k := 0) (u := .int .u64 0) HB
                have LI := Lib.hid (HL.out.kept K1)
                clear b0 b1 b2 b3 f0 f1 f2 f3
                have LK := Lib.hid K1
                have hL20 := K1.1.1.1
                have GI := get_any L v2 _ K1.1.1 (by omega) (om.vers hLok.out)
                obtain ⟨gi, gd, gm, gt, ge, hge⟩ := findR_parts L.head?
                rw [hge] at GI
                have GI := Lib.hid GI
                have HBm := Lib.hid HBm
                have OM := Lib.hid om
                have FD : Hid (∀ (n : Nat) b u, Vers b b.heap.size u L → Calls Try.prog 24 #[u, .int .u64 (n : Nat)] b fun e w' => e = .returned (findR (findV L n)) ∧ Q b w') := Lib.hid (fun n b u hu => find_any L u n b K1.1.1 (by omega) hu)
                have CK : Hid (∀ b u, Vers b b.heap.size u L → Calls Try.prog 17 #[u] b fun e w' => e = .returned (.int .i64 0) ∧ Q b w') := Lib.hid (fun b u hu => check_ok L u b K1.1.1 (by omega) hu)
                clear CA K1 HB hm2' hbase d0 d1 d2 hob om
                go_wp2_with fail
                refine (GI.out).mono ?_
                rintro e' w3 ⟨rfl, q3⟩
                have q4 := (qm.trans q3).alloc (.cells #[.int .u64 (gi : Nat), .string gd, .bool gm, .int .i64 gt] 25)
                obtain ⟨g0, g1, g2, g3⟩ := blk_cell HBm.out (q3.alloc (.cells #[.int .u64 (gi : Nat), .string gd, .bool gm, .int .i64 gt] 25))
                obtain ⟨e0, e1, e2⟩ := AT.out _ q4
                rw [HX.out] at e1
                have hm4 := (Below.block (q3.alloc (.cells #[.int .u64 (gi : Nat), .string gd, .bool gm, .int .i64 gt] 25)) _ (lt_of_block hmm)).trans hmm
                have hsz1 : (w3.alloc (.cells #[.int .u64 (gi : Nat), .string gd, .bool gm, .int .i64 gt] 25)).heap.size = w3.heap.size + 1 := World.size_alloc _ _
                go_wp2_with (refine wpList_range_u _ rfl _ rfl _ _ _ rfl hm4 ?_)
                simp only [Act.put, List.setIfInBounds_toArray, List.set_cons_zero, List.set_cons_succ, World.size_alloc]
                go_loopw [13, 14, 15, 16] (fun _ _ _ _ wr2 => ∃ (seen : Array Nat) (c0 : Nat), wr2.heap[w3.heap.size + 1]? = some (.mapIter (some w.heap.size) clock seen c0) ∧ clock ≤ c0 ∧ Q (w3.alloc (.cells #[.int .u64 (gi : Nat), .string gd, .bool gm, .int .i64 gt] 25)) wr2) (fun _ _ _ _ wr2 => leftIn wr2 (w3.heap.size + 1) es)
                case atStart => exact ⟨#[], clock, (by have := heap_alloc_new (w3.alloc (.cells #[.int .u64 (gi : Nat), .string gd, .bool gm, .int .i64 gt] 25)) (.mapIter (some w.heap.size) clock #[] clock); rw [hsz1] at this; exact this), Nat.le_refl _, (Q.refl _).alloc _⟩
                case round =>
                  obtain ⟨seen, c0, hit, hc0, qr⟩ := hrel
                  have hmr := (Below.block qr w.heap.size (lt_of_block hm4)).trans hm4
                  have hold : ∀ e ∈ (es).toList, e.born < clock := fun e he => (LI.out.1 e he).1
                  by_cases hleft : (leftOf es seen).size = 0
                  · have ow := OwnV.on OM.out ((q3.alloc (.cells #[.int .u64 (gi : Nat), .string gd, .bool gm, .int .i64 gt] 25)).trans qr)
                    have tn := Lib.hid (ow.vers hLok.out)
                    go_wp2_with (refine wpList_next_u _ rfl _ rfl _ _ _ _ _ _ _ rfl hit hmr hold hc0 (fun _ => ?_) (fun e he => (left_empty hleft he).elim))
                    refine (CK.out _ _ tn.out).mono ?_
                    rintro e' w6 ⟨rfl, q6⟩
                    have hm6 := (Below.block q6 _ (lt_of_block hmr)).trans hmr
                    go_wp2
                    go_roundw
                    case rel => exact ⟨i + 1, L, es, clock, by omega, by omega, by go_num, OwnV.lower (OwnV.on ow q6) (by simp; omega), Lib.hid LK.out.1, hm6, LI, (q4.trans qr).trans q6⟩
                    case measure => simp [intOf]; omega
                  · go_wp2_with (first
                      | (refine wpList_next_u _ rfl _ rfl _ _ _ _ _ _ _ rfl hit hmr hold hc0 (fun h => absurd h hleft) ?_; intro en hen w5 hw5; have hmem := (mem_left hen).1; obtain ⟨-, x', hk', hv', hx0, hxi, hfx⟩ := LI.out.1 en hmem; have q5 := (iter_q qr hw5).setBlock (b := w3.heap.size + 1) (Nat.le_of_eq hsz1) (.mapIter (some w.heap.size) clock (seen.push en.born) clock); have hit5 := iter_set (o' := .mapIter (some w.heap.size) clock (seen.push en.born) clock) (iter_at hit hw5); have hmr5 := (Below.block q5 w.heap.size (lt_of_block hm4)).trans hm4; rw [hk', hv'])
                      | (refine wpList_entry_u _ rfl _ rfl _ _ _ _ _ _ en rfl hit5 hmr5 hmem LI.out.2 ?_; rw [hk', hv', ver]))
                    have FI := FD.out x'.id _ _ ((OwnV.on OM.out ((q3.alloc (.cells #[.int .u64 (gi : Nat), .string gd, .bool gm, .int .i64 gt] 25)).trans (q5.alloc (.cells #[.int .u64 (x'.id : Nat), .string x'.data, .bool x'.mark, .int .i64 x'.tm] 25)))).vers hLok.out)
                    rw [hfx] at FI
                    simp only [findR, ver] at FI
                    obtain ⟨ze, hze⟩ : ∃ z : Int, z = (if x'.mark = true then 13 else 0) := ⟨_, rfl⟩
                    rw [← hze] at FI
                    clear hze
                    have FI := Lib.hid FI
                    refine (FI.out).mono ?_
                    rintro e' w6 ⟨rfl, q6⟩
                    obtain ⟨y0, y1, y2, y3⟩ := box_of (q6.alloc (.cells #[.int .u64 (x'.id : Nat), .string x'.data, .bool x'.mark, .int .i64 x'.tm] 25))
                    have q7 := ((q5.alloc (.cells #[.int .u64 (x'.id : Nat), .string x'.data, .bool x'.mark, .int .i64 x'.tm] 25)).trans q6).alloc (.cells #[.int .u64 (x'.id : Nat), .string x'.data, .bool x'.mark, .int .i64 x'.tm] 25)
                    have hit7 := (Below.block ((((Q.refl _).alloc (.cells #[.int .u64 (x'.id : Nat), .string x'.data, .bool x'.mark, .int .i64 x'.tm] 25)).trans q6).alloc (.cells #[.int .u64 (x'.id : Nat), .string x'.data, .bool x'.mark, .int .i64 x'.tm] 25)) _ (lt_of_block hit5)).trans hit5
                    go_wp2
                    go_roundw
                    case rel => exact ⟨seen.push en.born, clock, hit7, Nat.le_refl _, q7⟩
                    case measure => simp only [leftIn, hit7, hit]; exact left_shrinks _ _ _ hen
          · obtain ⟨L, e, hD⟩ := putC_ex m 1 (markV (i + 1) i)
            have hvok : okV (markV (i + 1) i) := markV_ok (by omega) (by omega) (by omega)
            have OUT := keep_put HK.out hD (by omega) (by omega) (by first | exact .inl rfl | exact .inr ⟨rfl, rfl⟩) rfl (by omega) hvok (fun _ => rfl)
            have hLok := Lib.hid (putC_okV hD HK.out.2.1 hvok)
            have CA := Lib.hid (delete_any m _ 1 (i + 1) i _ L e (.inr ⟨by omega, hD⟩) hml (by omega) (by omega) (by omega) tm.out)
            clear hD
            obtain ⟨A3, c3, rfl⟩ := own_len hob
            rcases OUT with R | K
            · as_aux_lemma =>
                obtain ⟨R0, R6, R4, R1⟩ := R
                have r0 : ((e : Int) != 0) = true := by
                  have : ¬ (e : Int) = 0 := by omega
                  simpa using this
                go_wp2_with fail
                refine (CA.out).mono ?_
                rintro e' w2 ⟨v2, rfl, o2, q2⟩
                obtain ⟨e0, e1, e2⟩ := AT.out _ (qb.trans q2)
                rw [HX.out] at e1
                obtain ⟨b0, b1, b2, b3⟩ := box_of q2
                have hm2 : w2.heap[w.heap.size]? = some (.map es clock) := (Below.block q2 _ (lt_of_block hmb)).trans hmb
                by_cases h6 : e = 6
                · have h20 : ¬ (m.length : Int) < 20 := by have := R6 h6; omega
                  subst h6
                  clear R0 R6 R4 R1 r0
                  go_wp2
                  go_roundw
                  case rel => exact ⟨i + 1, m, es, clock, by omega, by omega, by go_num, OwnV.on hob q2, Lib.hid HK.out.more, hm2, Lib.hid HL.out.more, qb.trans q2⟩
                  case measure => simp [intOf]; omega
                · have n6 : ((e : Int) == 6) = false := by
                    have : ¬ (e : Int) = 6 := by omega
                    simpa using this
                  by_cases h4 : e = 4
                  · subst h4
                    clear R0 R6 R4 R1 r0 n6
                    go_wp2
                    go_roundw
                    case rel => exact ⟨i + 1, m, es, clock, by omega, by omega, by go_num, OwnV.on hob q2, Lib.hid HK.out.more, hm2, Lib.hid HL.out.more, qb.trans q2⟩
                    case measure => simp [intOf]; omega
                  · have h1 : e ≠ 1 := fun k => by have h : 2000 < 0 := R1 k; omega
                    have n4 : ((e : Int) == 4) = false := by
                      have : ¬ (e : Int) = 4 := by omega
                      simpa using this
                    have n1 : ((e : Int) == 1) = false := by
                      have : ¬ (e : Int) = 1 := by omega
                      simpa using this
                    go_wp2
                    go_roundw
                    case rel => exact ⟨i + 1, m, es, clock, by omega, by omega, by go_num, OwnV.on hob q2, Lib.hid HK.out.more, hm2, Lib.hid HL.out.more, qb.trans q2⟩
                    case measure => simp [intOf]; omega
            · as_aux_lemma =>
                obtain ⟨rfl, K1, K2, -⟩ := K
                have hbase : w1.heap.size < (w1.alloc (.cells #[.int .u64 ((i : Int) + 1), .string ⟨#[]⟩, .bool true, .int .i64 (i : Nat)] 25)).heap.size := by simp
                have hm2' : ∀ b, Q (w1.alloc (.cells #[.int .u64 ((i : Int) + 1), .string ⟨#[]⟩, .bool true, .int .i64 (i : Nat)] 25)) b → b.heap[w.heap.size]? = some (.map es clock) := fun b q => (Below.block q _ (lt_of_block hmb)).trans hmb
                rw [if_pos rfl] at K2
                go_wp2_with fail
                refine (CA.out).mono ?_
                rintro e' w2 ⟨v2, rfl, o2, q2⟩
                have hm2 := hm2' _ q2
                have HB := blk_of q2
                obtain ⟨b0, b1, b2, b3⟩ := box_of q2
                obtain ⟨f0, f1, f2, f3⟩ := box_free q2
                have hfn : Instr.findNow (.int .u64) (.int .u64 ((i : Int) + 1)) es.toList 0 = some none := HL.out.none
                go_wp2_with (refine wpList_update_u _ rfl _ _ _ rfl _ es clock ((i : Int) + 1) (.agg #[.int .u64 ((i : Int) + 1), .string ⟨#[]⟩, .bool true, .int .i64 (i : Nat)]) rfl rfl rfl hm2 hfn ?_)
                have om := o2.setBlockAt (o := .map (es.push ⟨.int .u64 ((i : Int) + 1), .agg #[.int .u64 ((i : Int) + 1), .string ⟨#[]⟩, .bool true, .int .i64 (i : Nat)], clock⟩) (clock + 1)) (Nat.lt_trans hg hbase)
                have qm := (qb.trans q2).setBlock (Nat.le_refl _) (.map (es.push ⟨.int .u64 ((i : Int) + 1), .agg #[.int .u64 ((i : Int) + 1), .string ⟨#[]⟩, .bool true, .int .i64 (i : Nat)], clock⟩) (clock + 1))
                have hmm := ChangeMaps.heap_setBlock_same hm2 (.map (es.push ⟨.int .u64 ((i : Int) + 1), .agg #[.int .u64 ((i : Int) + 1), .string ⟨#[]⟩, .bool true, .int .i64 (i : Nat)], clock⟩) (clock + 1))
                have HBm := (ChangeMaps.heap_setBlock_other hm2 (.map (es.push ⟨.int .u64 ((i : Int) + 1), .agg #[.int .u64 ((i : Int) + 1), .string ⟨#[]⟩, .bool true, .int .i64 (i : Nat)], clock⟩) (clock + 1)) (Nat.ne_of_gt hg)).trans HB
                have LI : Hid (LaidI L (i + 1) _ (clock + 1)) := Lib.hid ((HL.out.kept K1).push (x := ⟨i + 1, ⟨#[]⟩, true, (i : Int)⟩) (by simp) (by simp) (by
                  obtain ⟨y, r, e⟩ : ∃ y r, L = y :: r := by
                    cases L with
                    | nil => simp at K2
                    | cons y r => exact ⟨y, r, rfl⟩
                  rw [e] at K2 ⊢
                  injection K2 with K2
                  rw [show y = ⟨i + 1, ⟨#[]⟩, true, (i : Int)⟩ from K2]
                  exact find_cons_eq))
                clear b0 b1 b2 b3 f0 f1 f2 f3
                have LK := Lib.hid K1
                have hL20 := K1.1.1.1
                have GI := get_any L v2 _ K1.1.1 (by omega) (om.vers hLok.out)
                rw [K2] at GI
                have GI : Calls Try.prog 22 #[v2] _ fun e w' => e = .returned (.tuple #[.agg #[.int .u64 ((i : Int) + 1), .string ⟨#[]⟩, .bool true, .int .i64 (i : Nat)], .int .i64 13]) ∧ Q _ w' := GI
                have GI := Lib.hid GI
                have HBm := Lib.hid HBm
                have OM := Lib.hid om
                have FD : Hid (∀ (n : Nat) b u, Vers b b.heap.size u L → Calls Try.prog 24 #[u, .int .u64 (n : Nat)] b fun e w' => e = .returned (findR (findV L n)) ∧ Q b w') := Lib.hid (fun n b u hu => find_any L u n b K1.1.1 (by omega) hu)
                have CK : Hid (∀ b u, Vers b b.heap.size u L → Calls Try.prog 17 #[u] b fun e w' => e = .returned (.int .i64 0) ∧ Q b w') := Lib.hid (fun b u hu => check_ok L u b K1.1.1 (by omega) hu)
                clear CA K1 HB hm2' hbase d0 d1 d2 hob om
                go_wp2_with fail
                refine (GI.out).mono ?_
                rintro e' w3 ⟨rfl, q3⟩
                have q4 := (qm.trans q3).alloc (.cells #[.int .u64 ((i : Int) + 1), .string ⟨#[]⟩, .bool true, .int .i64 (i : Nat)] 25)
                obtain ⟨g0, g1, g2, g3⟩ := blk_cell HBm.out (q3.alloc (.cells #[.int .u64 ((i : Int) + 1), .string ⟨#[]⟩, .bool true, .int .i64 (i : Nat)] 25))
                obtain ⟨e0, e1, e2⟩ := AT.out _ q4
                rw [HX.out] at e1
                have hm4 := (Below.block (q3.alloc (.cells #[.int .u64 ((i : Int) + 1), .string ⟨#[]⟩, .bool true, .int .i64 (i : Nat)] 25)) _ (lt_of_block hmm)).trans hmm
                have hsz1 : (w3.alloc (.cells #[.int .u64 ((i : Int) + 1), .string ⟨#[]⟩, .bool true, .int .i64 (i : Nat)] 25)).heap.size = w3.heap.size + 1 := World.size_alloc _ _
                go_wp2_with (refine wpList_range_u _ rfl _ rfl _ _ _ rfl hm4 ?_)
                simp only [Act.put, List.setIfInBounds_toArray, List.set_cons_zero, List.set_cons_succ, World.size_alloc]
                go_loopw [13, 14, 15, 16] (fun _ _ _ _ wr2 => ∃ (seen : Array Nat) (c0 : Nat), wr2.heap[w3.heap.size + 1]? = some (.mapIter (some w.heap.size) (clock + 1) seen c0) ∧ (clock + 1) ≤ c0 ∧ Q (w3.alloc (.cells #[.int .u64 ((i : Int) + 1), .string ⟨#[]⟩, .bool true, .int .i64 (i : Nat)] 25)) wr2) (fun _ _ _ _ wr2 => leftIn wr2 (w3.heap.size + 1) (es.push ⟨.int .u64 ((i : Int) + 1), .agg #[.int .u64 ((i : Int) + 1), .string ⟨#[]⟩, .bool true, .int .i64 (i : Nat)], clock⟩))
                case atStart => exact ⟨#[], (clock + 1), (by have := heap_alloc_new (w3.alloc (.cells #[.int .u64 ((i : Int) + 1), .string ⟨#[]⟩, .bool true, .int .i64 (i : Nat)] 25)) (.mapIter (some w.heap.size) (clock + 1) #[] (clock + 1)); rw [hsz1] at this; exact this), Nat.le_refl _, (Q.refl _).alloc _⟩
                case round =>
                  obtain ⟨seen, c0, hit, hc0, qr⟩ := hrel
                  have hmr := (Below.block qr w.heap.size (lt_of_block hm4)).trans hm4
                  have hold : ∀ e ∈ ((es.push ⟨.int .u64 ((i : Int) + 1), .agg #[.int .u64 ((i : Int) + 1), .string ⟨#[]⟩, .bool true, .int .i64 (i : Nat)], clock⟩)).toList, e.born < (clock + 1) := fun e he => (LI.out.1 e he).1
                  by_cases hleft : (leftOf (es.push ⟨.int .u64 ((i : Int) + 1), .agg #[.int .u64 ((i : Int) + 1), .string ⟨#[]⟩, .bool true, .int .i64 (i : Nat)], clock⟩) seen).size = 0
                  · have ow := OwnV.on OM.out ((q3.alloc (.cells #[.int .u64 ((i : Int) + 1), .string ⟨#[]⟩, .bool true, .int .i64 (i : Nat)] 25)).trans qr)
                    have tn := Lib.hid (ow.vers hLok.out)
                    go_wp2_with (refine wpList_next_u _ rfl _ rfl _ _ _ _ _ _ _ rfl hit hmr hold hc0 (fun _ => ?_) (fun e he => (left_empty hleft he).elim))
                    refine (CK.out _ _ tn.out).mono ?_
                    rintro e' w6 ⟨rfl, q6⟩
                    have hm6 := (Below.block q6 _ (lt_of_block hmr)).trans hmr
                    go_wp2
                    go_roundw
                    case rel => exact ⟨i + 1, L, (es.push ⟨.int .u64 ((i : Int) + 1), .agg #[.int .u64 ((i : Int) + 1), .string ⟨#[]⟩, .bool true, .int .i64 (i : Nat)], clock⟩), (clock + 1), by omega, by omega, by go_num, OwnV.lower (OwnV.on ow q6) (by simp; omega), Lib.hid LK.out.1, hm6, LI, (q4.trans qr).trans q6⟩
                    case measure => simp [intOf]; omega
                  · go_wp2_with (first
                      | (refine wpList_next_u _ rfl _ rfl _ _ _ _ _ _ _ rfl hit hmr hold hc0 (fun h => absurd h hleft) ?_; intro en hen w5 hw5; have hmem := (mem_left hen).1; obtain ⟨-, x', hk', hv', hx0, hxi, hfx⟩ := LI.out.1 en hmem; have q5 := (iter_q qr hw5).setBlock (b := w3.heap.size + 1) (Nat.le_of_eq hsz1) (.mapIter (some w.heap.size) (clock + 1) (seen.push en.born) (clock + 1)); have hit5 := iter_set (o' := .mapIter (some w.heap.size) (clock + 1) (seen.push en.born) (clock + 1)) (iter_at hit hw5); have hmr5 := (Below.block q5 w.heap.size (lt_of_block hm4)).trans hm4; rw [hk', hv'])
                      | (refine wpList_entry_u _ rfl _ rfl _ _ _ _ _ _ en rfl hit5 hmr5 hmem LI.out.2 ?_; rw [hk', hv', ver]))
                    have FI := FD.out x'.id _ _ ((OwnV.on OM.out ((q3.alloc (.cells #[.int .u64 ((i : Int) + 1), .string ⟨#[]⟩, .bool true, .int .i64 (i : Nat)] 25)).trans (q5.alloc (.cells #[.int .u64 (x'.id : Nat), .string x'.data, .bool x'.mark, .int .i64 x'.tm] 25)))).vers hLok.out)
                    rw [hfx] at FI
                    simp only [findR, ver] at FI
                    obtain ⟨ze, hze⟩ : ∃ z : Int, z = (if x'.mark = true then 13 else 0) := ⟨_, rfl⟩
                    rw [← hze] at FI
                    clear hze
                    have FI := Lib.hid FI
                    refine (FI.out).mono ?_
                    rintro e' w6 ⟨rfl, q6⟩
                    obtain ⟨y0, y1, y2, y3⟩ := box_of (q6.alloc (.cells #[.int .u64 (x'.id : Nat), .string x'.data, .bool x'.mark, .int .i64 x'.tm] 25))
                    have q7 := ((q5.alloc (.cells #[.int .u64 (x'.id : Nat), .string x'.data, .bool x'.mark, .int .i64 x'.tm] 25)).trans q6).alloc (.cells #[.int .u64 (x'.id : Nat), .string x'.data, .bool x'.mark, .int .i64 x'.tm] 25)
                    have hit7 := (Below.block ((((Q.refl _).alloc (.cells #[.int .u64 (x'.id : Nat), .string x'.data, .bool x'.mark, .int .i64 x'.tm] 25)).trans q6).alloc (.cells #[.int .u64 (x'.id : Nat), .string x'.data, .bool x'.mark, .int .i64 x'.tm] 25)) _ (lt_of_block hit5)).trans hit5
                    go_wp2
                    go_roundw
                    case rel => exact ⟨seen.push en.born, (clock + 1), hit7, Nat.le_refl _, q7⟩
                    case measure => simp only [leftIn, hit7, hit]; exact left_shrinks _ _ _ hen
          · obtain ⟨L, e, hD⟩ := putC_ex m 2 (markV 0 i)
            have hvok : okV (markV 0 i) := markV_ok (by omega) (by omega) (by omega)
            have OUT := keep_put HK.out hD (by omega) (by omega) (by first | exact .inl rfl | exact .inr ⟨rfl, rfl⟩) rfl (by omega) hvok (fun _ => rfl)
            have hLok := Lib.hid (putC_okV hD HK.out.2.1 hvok)
            have CA := Lib.hid (delete_any m _ 2 (i + 1) i _ L e (.inr ⟨by omega, hD⟩) hml (by omega) (by omega) (by omega) tm.out)
            clear hD
            obtain ⟨A3, c3, rfl⟩ := own_len hob
            rcases OUT with R | K
            · as_aux_lemma =>
                obtain ⟨R0, R6, R4, R1⟩ := R
                have r0 : ((e : Int) != 0) = true := by
                  have : ¬ (e : Int) = 0 := by omega
                  simpa using this
                go_wp2_with fail
                refine (CA.out).mono ?_
                rintro e' w2 ⟨v2, rfl, o2, q2⟩
                obtain ⟨e0, e1, e2⟩ := AT.out _ (qb.trans q2)
                rw [HX.out] at e1
                obtain ⟨b0, b1, b2, b3⟩ := box_of q2
                have hm2 : w2.heap[w.heap.size]? = some (.map es clock) := (Below.block q2 _ (lt_of_block hmb)).trans hmb
                by_cases h6 : e = 6
                · have h20 : ¬ (m.length : Int) < 20 := by have := R6 h6; omega
                  subst h6
                  clear R0 R6 R4 R1 r0
                  go_wp2
                  go_roundw
                  case rel => exact ⟨i + 1, m, es, clock, by omega, by omega, by go_num, OwnV.on hob q2, Lib.hid HK.out.more, hm2, Lib.hid HL.out.more, qb.trans q2⟩
                  case measure => simp [intOf]; omega
                · have n6 : ((e : Int) == 6) = false := by
                    have : ¬ (e : Int) = 6 := by omega
                    simpa using this
                  by_cases h4 : e = 4
                  · subst h4
                    clear R0 R6 R4 R1 r0 n6
                    go_wp2
                    go_roundw
                    case rel => exact ⟨i + 1, m, es, clock, by omega, by omega, by go_num, OwnV.on hob q2, Lib.hid HK.out.more, hm2, Lib.hid HL.out.more, qb.trans q2⟩
                    case measure => simp [intOf]; omega
                  · have h1 : e ≠ 1 := fun k => by have h : 2000 < 0 := R1 k; omega
                    have n4 : ((e : Int) == 4) = false := by
                      have : ¬ (e : Int) = 4 := by omega
                      simpa using this
                    have n1 : ((e : Int) == 1) = false := by
                      have : ¬ (e : Int) = 1 := by omega
                      simpa using this
                    go_wp2
                    go_roundw
                    case rel => exact ⟨i + 1, m, es, clock, by omega, by omega, by go_num, OwnV.on hob q2, Lib.hid HK.out.more, hm2, Lib.hid HL.out.more, qb.trans q2⟩
                    case measure => simp [intOf]; omega
            · as_aux_lemma =>
                obtain ⟨rfl, K1, K2, -⟩ := K
                have hbase : w1.heap.size < (w1.alloc (.cells #[.int .u64 ((i : Int) + 1), .string ⟨#[]⟩, .bool true, .int .i64 (i : Nat)] 25)).heap.size := by simp
                have hm2' : ∀ b, Q (w1.alloc (.cells #[.int .u64 ((i : Int) + 1), .string ⟨#[]⟩, .bool true, .int .i64 (i : Nat)] 25)) b → b.heap[w.heap.size]? = some (.map es clock) := fun b q => (Below.block q _ (lt_of_block hmb)).trans hmb
                rw [if_neg (by omega)] at K2
                go_wp2_with fail
                refine (CA.out).mono ?_
                rintro e' w2 ⟨v2, rfl, o2, q2⟩
                have hm2 := hm2' _ q2
                have HB := blk_of q2
                obtain ⟨b0, b1, b2, b3⟩ := box_of q2
                obtain ⟨f0, f1, f2, f3⟩ := box_free q2
                go_wp2_with fail
                have om := o2.setAt (k := 0) (u := .int .u64 0) hbase
                have qm := (qb.trans q2).set (k := 0) (Nat.le_of_lt hg) (.int .u64 0)
                have hmm : (w2.setCell ⟨w1.heap.size, 0, none⟩ (.int .u64 0)).heap[w.heap.size]? = some (.map es clock) := by
                  refine Eq.trans ?_ hm2
                  show (w2.heap.modify w1.heap.size _)[w.heap.size]? = _
                  rw [Array.getElem?_modify, if_neg (by omega)]
                have HBm := blk_step (k := 0) (u := .int .u64 0) HB
                have LI := Lib.hid (HL.out.kept K1)
                clear b0 b1 b2 b3 f0 f1 f2 f3
                have LK := Lib.hid K1
                have hL20 := K1.1.1.1
                have GI := get_any L v2 _ K1.1.1 (by omega) (om.vers hLok.out)
                rw [K2] at GI
                have GI : Calls Try.prog 22 #[v2] _ fun e w' => e = .returned (.tuple #[.agg #[.int .u64 0, .string ⟨#[]⟩, .bool true, .int .i64 (i : Nat)], .int .i64 13]) ∧ Q _ w' := GI
                have GI := Lib.hid GI
                have HBm := Lib.hid HBm
                have OM := Lib.hid om
                have FD : Hid (∀ (n : Nat) b u, Vers b b.heap.size u L → Calls Try.prog 24 #[u, .int .u64 (n : Nat)] b fun e w' => e = .returned (findR (findV L n)) ∧ Q b w') := Lib.hid (fun n b u hu => find_any L u n b K1.1.1 (by omega) hu)
                have CK : Hid (∀ b u, Vers b b.heap.size u L → Calls Try.prog 17 #[u] b fun e w' => e = .returned (.int .i64 0) ∧ Q b w') := Lib.hid (fun b u hu => check_ok L u b K1.1.1 (by omega) hu)
                clear CA K1 HB hm2' hbase d0 d1 d2 hob om
                go_wp2_with fail
                refine (GI.out).mono ?_
                rintro e' w3 ⟨rfl, q3⟩
                have q4 := (qm.trans q3).alloc (.cells #[.int .u64 0, .string ⟨#[]⟩, .bool true, .int .i64 (i : Nat)] 25)
                obtain ⟨g0, g1, g2, g3⟩ := blk_cell HBm.out (q3.alloc (.cells #[.int .u64 0, .string ⟨#[]⟩, .bool true, .int .i64 (i : Nat)] 25))
                obtain ⟨e0, e1, e2⟩ := AT.out _ q4
                rw [HX.out] at e1
                have hm4 := (Below.block (q3.alloc (.cells #[.int .u64 0, .string ⟨#[]⟩, .bool true, .int .i64 (i : Nat)] 25)) _ (lt_of_block hmm)).trans hmm
                have hsz1 : (w3.alloc (.cells #[.int .u64 0, .string ⟨#[]⟩, .bool true, .int .i64 (i : Nat)] 25)).heap.size = w3.heap.size + 1 := World.size_alloc _ _
                go_wp2_with (refine wpList_range_u _ rfl _ rfl _ _ _ rfl hm4 ?_)
                simp only [Act.put, List.setIfInBounds_toArray, List.set_cons_zero, List.set_cons_succ, World.size_alloc]
                go_loopw [13, 14, 15, 16] (fun _ _ _ _ wr2 => ∃ (seen : Array Nat) (c0 : Nat), wr2.heap[w3.heap.size + 1]? = some (.mapIter (some w.heap.size) clock seen c0) ∧ clock ≤ c0 ∧ Q (w3.alloc (.cells #[.int .u64 0, .string ⟨#[]⟩, .bool true, .int .i64 (i : Nat)] 25)) wr2) (fun _ _ _ _ wr2 => leftIn wr2 (w3.heap.size + 1) es)
                case atStart => exact ⟨#[], clock, (by have := heap_alloc_new (w3.alloc (.cells #[.int .u64 0, .string ⟨#[]⟩, .bool true, .int .i64 (i : Nat)] 25)) (.mapIter (some w.heap.size) clock #[] clock); rw [hsz1] at this; exact this), Nat.le_refl _, (Q.refl _).alloc _⟩
                case round =>
                  obtain ⟨seen, c0, hit, hc0, qr⟩ := hrel
                  have hmr := (Below.block qr w.heap.size (lt_of_block hm4)).trans hm4
                  have hold : ∀ e ∈ (es).toList, e.born < clock := fun e he => (LI.out.1 e he).1
                  by_cases hleft : (leftOf es seen).size = 0
                  · have ow := OwnV.on OM.out ((q3.alloc (.cells #[.int .u64 0, .string ⟨#[]⟩, .bool true, .int .i64 (i : Nat)] 25)).trans qr)
                    have tn := Lib.hid (ow.vers hLok.out)
                    go_wp2_with (refine wpList_next_u _ rfl _ rfl _ _ _ _ _ _ _ rfl hit hmr hold hc0 (fun _ => ?_) (fun e he => (left_empty hleft he).elim))
                    refine (CK.out _ _ tn.out).mono ?_
                    rintro e' w6 ⟨rfl, q6⟩
                    have hm6 := (Below.block q6 _ (lt_of_block hmr)).trans hmr
                    go_wp2
                    go_roundw
                    case rel => exact ⟨i + 1, L, es, clock, by omega, by omega, by go_num, OwnV.lower (OwnV.on ow q6) (by simp; omega), Lib.hid LK.out.1, hm6, LI, (q4.trans qr).trans q6⟩
                    case measure => simp [intOf]; omega
                  · go_wp2_with (first
                      | (refine wpList_next_u _ rfl _ rfl _ _ _ _ _ _ _ rfl hit hmr hold hc0 (fun h => absurd h hleft) ?_; intro en hen w5 hw5; have hmem := (mem_left hen).1; obtain ⟨-, x', hk', hv', hx0, hxi, hfx⟩ := LI.out.1 en hmem; have q5 := (iter_q qr hw5).setBlock (b := w3.heap.size + 1) (Nat.le_of_eq hsz1) (.mapIter (some w.heap.size) clock (seen.push en.born) clock); have hit5 := iter_set (o' := .mapIter (some w.heap.size) clock (seen.push en.born) clock) (iter_at hit hw5); have hmr5 := (Below.block q5 w.heap.size (lt_of_block hm4)).trans hm4; rw [hk', hv'])
                      | (refine wpList_entry_u _ rfl _ rfl _ _ _ _ _ _ en rfl hit5 hmr5 hmem LI.out.2 ?_; rw [hk', hv', ver]))
                    have FI := FD.out x'.id _ _ ((OwnV.on OM.out ((q3.alloc (.cells #[.int .u64 0, .string ⟨#[]⟩, .bool true, .int .i64 (i : Nat)] 25)).trans (q5.alloc (.cells #[.int .u64 (x'.id : Nat), .string x'.data, .bool x'.mark, .int .i64 x'.tm] 25)))).vers hLok.out)
                    rw [hfx] at FI
                    simp only [findR, ver] at FI
                    obtain ⟨ze, hze⟩ : ∃ z : Int, z = (if x'.mark = true then 13 else 0) := ⟨_, rfl⟩
                    rw [← hze] at FI
                    clear hze
                    have FI := Lib.hid FI
                    refine (FI.out).mono ?_
                    rintro e' w6 ⟨rfl, q6⟩
                    obtain ⟨y0, y1, y2, y3⟩ := box_of (q6.alloc (.cells #[.int .u64 (x'.id : Nat), .string x'.data, .bool x'.mark, .int .i64 x'.tm] 25))
                    have q7 := ((q5.alloc (.cells #[.int .u64 (x'.id : Nat), .string x'.data, .bool x'.mark, .int .i64 x'.tm] 25)).trans q6).alloc (.cells #[.int .u64 (x'.id : Nat), .string x'.data, .bool x'.mark, .int .i64 x'.tm] 25)
                    have hit7 := (Below.block ((((Q.refl _).alloc (.cells #[.int .u64 (x'.id : Nat), .string x'.data, .bool x'.mark, .int .i64 x'.tm] 25)).trans q6).alloc (.cells #[.int .u64 (x'.id : Nat), .string x'.data, .bool x'.mark, .int .i64 x'.tm] 25)) _ (lt_of_block hit5)).trans hit5
                    go_wp2
                    go_roundw
                    case rel => exact ⟨seen.push en.born, clock, hit7, Nat.le_refl _, q7⟩
                    case measure => simp only [leftIn, hit7, hit]; exact left_shrinks _ _ _ hen
        case false =>
          rw [hdel] at c1
          go_wp2_with fail
          refine (ON.out _).mono ?_
          rintro e w1 ⟨rfl, q1⟩
          obtain ⟨s, hs⟩ : ∃ s : Int, s = (x.st : Int) % 3 := ⟨_, rfl⟩
          rw [← hs]
          have hs0 : 0 ≤ s := by omega
          have hs2 : s ≤ 2 := by omega
          have HX := Lib.hid hdel
          clear hs hdel c0 c1 c2 ON
          have qg : Q w w1 := q.trans q1
          have hg : w.heap.size < w1.heap.size := by have := lt_of_block hmap; have := q1.size; omega
          have qb := qg.alloc (.cells #[.int .u64 ((i : Int) + 1), .string dd, .bool false, .int .i64 (i : Nat)] 25)
          have hob := OwnV.on ho (q1.alloc (.cells #[.int .u64 ((i : Int) + 1), .string dd, .bool false, .int .i64 (i : Nat)] 25))
          have hmb : (w1.alloc (.cells #[.int .u64 ((i : Int) + 1), .string dd, .bool false, .int .i64 (i : Nat)] 25)).heap[w.heap.size]? = some (.map es clock) := (Below.block (q1.alloc _) _ (lt_of_block hmap)).trans hmap
          have tm := Lib.hid (hob.vers HK.out.2.1)
          have hml : m.length ≤ 900 := by have := HK.out.1.1; omega
          obtain ⟨d0, d1, d2⟩ := AT.out _ (qg.alloc (.cells #[.int .u64 ((i : Int) + 1), .string dd, .bool false, .int .i64 (i : Nat)] 25))
          rw [HX.out] at d1
          rcases (show s = 0 ∨ s = 1 ∨ s = 2 by omega) with rfl | rfl | rfl
          · obtain ⟨L, e, hD⟩ := putC_ex m 0 ⟨i + 1, dd, false, i⟩
            have OUT := keep_put HK.out hD (by omega) (by omega) (.inl rfl) rfl (by omega) hok (by simp)
            have hLok := Lib.hid (putC_okV hD HK.out.2.1 hok)
            have CA := Lib.hid (put_any m _ 0 ⟨i + 1, dd, false, i⟩ _ L e hD hml hok tm.out)
            clear hD
            obtain ⟨A3, c3, rfl⟩ := own_len hob
            rcases OUT with R | K
            · as_aux_lemma =>
                obtain ⟨R0, R6, R4, R1⟩ := R
                have r0 : ((e : Int) != 0) = true := by
                  have : ¬ (e : Int) = 0 := by omega
                  simpa using this
                go_wp2_with fail
                refine (CA.out).mono ?_
                rintro e' w2 ⟨v2, rfl, o2, q2⟩
                obtain ⟨e0, e1, e2⟩ := AT.out _ (qb.trans q2)
                rw [HX.out] at e1
                obtain ⟨b0, b1, b2, b3⟩ := box_of q2
                have hm2 : w2.heap[w.heap.size]? = some (.map es clock) := (Below.block q2 _ (lt_of_block hmb)).trans hmb
                by_cases h6 : e = 6
                · have h20 : ¬ (m.length : Int) < 20 := by have := R6 h6; omega
                  subst h6
                  clear R0 R6 R4 R1 r0
                  go_wp2
                  go_roundw
                  case rel => exact ⟨i + 1, m, es, clock, by omega, by omega, by go_num, OwnV.on hob q2, Lib.hid HK.out.more, hm2, Lib.hid HL.out.more, qb.trans q2⟩
                  case measure => simp [intOf]; omega
                · have n6 : ((e : Int) == 6) = false := by
                    have : ¬ (e : Int) = 6 := by omega
                    simpa using this
                  by_cases h4 : e = 4
                  · exact absurd (R4 h4) (by simp)
                  · by_cases h1 : e = 1
                    · have hd : ¬ (dd.size : Int) ≤ 2000 := by have h : 2000 < dd.size := R1 h1; omega
                      subst h1
                      clear R0 R6 R4 R1 r0 n6
                      go_wp2
                      go_roundw
                      case rel => exact ⟨i + 1, m, es, clock, by omega, by omega, by go_num, OwnV.on hob q2, Lib.hid HK.out.more, hm2, Lib.hid HL.out.more, qb.trans q2⟩
                      case measure => simp [intOf]; omega
                    · have n4 : ((e : Int) == 4) = false := by
                        have : ¬ (e : Int) = 4 := by omega
                        simpa using this
                      have n1 : ((e : Int) == 1) = false := by
                        have : ¬ (e : Int) = 1 := by omega
                        simpa using this
                      go_wp2
                      go_roundw
                      case rel => exact ⟨i + 1, m, es, clock, by omega, by omega, by go_num, OwnV.on hob q2, Lib.hid HK.out.more, hm2, Lib.hid HL.out.more, qb.trans q2⟩
                      case measure => simp [intOf]; omega
            · as_aux_lemma =>
                obtain ⟨rfl, K1, K2, -⟩ := K
                have hbase : w1.heap.size < (w1.alloc (.cells #[.int .u64 ((i : Int) + 1), .string dd, .bool false, .int .i64 (i : Nat)] 25)).heap.size := by simp
                have hm2' : ∀ b, Q (w1.alloc (.cells #[.int .u64 ((i : Int) + 1), .string dd, .bool false, .int .i64 (i : Nat)] 25)) b → b.heap[w.heap.size]? = some (.map es clock) := fun b q => (Below.block q _ (lt_of_block hmb)).trans hmb
                rw [if_neg (by omega)] at K2
                go_wp2_with fail
                refine (CA.out).mono ?_
                rintro e' w2 ⟨v2, rfl, o2, q2⟩
                have hm2 := hm2' _ q2
                have HB := blk_of q2
                obtain ⟨b0, b1, b2, b3⟩ := box_of q2
                obtain ⟨f0, f1, f2, f3⟩ := box_free q2
                go_wp2_with fail
                have om := o2.setAt (k := 0) (u := .int .u64 0) hbase
                have qm := (qb.trans q2).set (k := 0) (Nat.le_of_lt hg) (.int .u64 0)
                have hmm : (w2.setCell ⟨w1.heap.size, 0, none⟩ (.int .u64 0)).heap[w.heap.size]? = some (.map es clock) := by
                  refine Eq.trans ?_ hm2
                  show (w2.heap.modify w1.heap.size _)[w.heap.size]? = _
                  rw [Array.getElem?_modify, if_neg (by omega)]
                have HBm := blk_step (k := 0) (u := .int .u64 0) HB
                have LI := Lib.hid (HL.out.kept K1)
                clear b0 b1 b2 b3 f0 f1 f2 f3
                have LK := Lib.hid K1
                have hL20 := K1.1.1.1
                have GI := get_any L v2 _ K1.1.1 (by omega) (om.vers hLok.out)
                rw [K2] at GI
                have GI : Calls Try.prog 22 #[v2] _ fun e w' => e = .returned (.tuple #[.agg #[.int .u64 0, .string dd, .bool false, .int .i64 (i : Nat)], .int .i64 0]) ∧ Q _ w' := GI
                have GI := Lib.hid GI
                have HBm := Lib.hid HBm
                have OM := Lib.hid om
                have FD : Hid (∀ (n : Nat) b u, Vers b b.heap.size u L → Calls Try.prog 24 #[u, .int .u64 (n : Nat)] b fun e w' => e = .returned (findR (findV L n)) ∧ Q b w') := Lib.hid (fun n b u hu => find_any L u n b K1.1.1 (by omega) hu)
                have CK : Hid (∀ b u, Vers b b.heap.size u L → Calls Try.prog 17 #[u] b fun e w' => e = .returned (.int .i64 0) ∧ Q b w') := Lib.hid (fun b u hu => check_ok L u b K1.1.1 (by omega) hu)
                clear CA K1 HB hm2' hbase d0 d1 d2 hob om
                go_wp2_with fail
                refine (GI.out).mono ?_
                rintro e' w3 ⟨rfl, q3⟩
                have q4 := (qm.trans q3).alloc (.cells #[.int .u64 0, .string dd, .bool false, .int .i64 (i : Nat)] 25)
                obtain ⟨g0, g1, g2, g3⟩ := blk_cell HBm.out (q3.alloc (.cells #[.int .u64 0, .string dd, .bool false, .int .i64 (i : Nat)] 25))
                obtain ⟨e0, e1, e2⟩ := AT.out _ q4
                rw [HX.out] at e1
                have hm4 := (Below.block (q3.alloc (.cells #[.int .u64 0, .string dd, .bool false, .int .i64 (i : Nat)] 25)) _ (lt_of_block hmm)).trans hmm
                have hsz1 : (w3.alloc (.cells #[.int .u64 0, .string dd, .bool false, .int .i64 (i : Nat)] 25)).heap.size = w3.heap.size + 1 := World.size_alloc _ _
                go_wp2_with (refine wpList_range_u _ rfl _ rfl _ _ _ rfl hm4 ?_)
                simp only [Act.put, List.setIfInBounds_toArray, List.set_cons_zero, List.set_cons_succ, World.size_alloc]
                go_loopw [13, 14, 15, 16] (fun _ _ _ _ wr2 => ∃ (seen : Array Nat) (c0 : Nat), wr2.heap[w3.heap.size + 1]? = some (.mapIter (some w.heap.size) clock seen c0) ∧ clock ≤ c0 ∧ Q (w3.alloc (.cells #[.int .u64 0, .string dd, .bool false, .int .i64 (i : Nat)] 25)) wr2) (fun _ _ _ _ wr2 => leftIn wr2 (w3.heap.size + 1) es)
                case atStart => exact ⟨#[], clock, (by have := heap_alloc_new (w3.alloc (.cells #[.int .u64 0, .string dd, .bool false, .int .i64 (i : Nat)] 25)) (.mapIter (some w.heap.size) clock #[] clock); rw [hsz1] at this; exact this), Nat.le_refl _, (Q.refl _).alloc _⟩
                case round =>
                  obtain ⟨seen, c0, hit, hc0, qr⟩ := hrel
                  have hmr := (Below.block qr w.heap.size (lt_of_block hm4)).trans hm4
                  have hold : ∀ e ∈ (es).toList, e.born < clock := fun e he => (LI.out.1 e he).1
                  by_cases hleft : (leftOf es seen).size = 0
                  · have ow := OwnV.on OM.out ((q3.alloc (.cells #[.int .u64 0, .string dd, .bool false, .int .i64 (i : Nat)] 25)).trans qr)
                    have tn := Lib.hid (ow.vers hLok.out)
                    go_wp2_with (refine wpList_next_u _ rfl _ rfl _ _ _ _ _ _ _ rfl hit hmr hold hc0 (fun _ => ?_) (fun e he => (left_empty hleft he).elim))
                    refine (CK.out _ _ tn.out).mono ?_
                    rintro e' w6 ⟨rfl, q6⟩
                    have hm6 := (Below.block q6 _ (lt_of_block hmr)).trans hmr
                    go_wp2
                    go_roundw
                    case rel => exact ⟨i + 1, L, es, clock, by omega, by omega, by go_num, OwnV.lower (OwnV.on ow q6) (by simp; omega), Lib.hid LK.out.1, hm6, LI, (q4.trans qr).trans q6⟩
                    case measure => simp [intOf]; omega
                  · go_wp2_with (first
                      | (refine wpList_next_u _ rfl _ rfl _ _ _ _ _ _ _ rfl hit hmr hold hc0 (fun h => absurd h hleft) ?_; intro en hen w5 hw5; have hmem := (mem_left hen).1; obtain ⟨-, x', hk', hv', hx0, hxi, hfx⟩ := LI.out.1 en hmem; have q5 := (iter_q qr hw5).setBlock (b := w3.heap.size + 1) (Nat.le_of_eq hsz1) (.mapIter (some w.heap.size) clock (seen.push en.born) clock); have hit5 := iter_set (o' := .mapIter (some w.heap.size) clock (seen.push en.born) clock) (iter_at hit hw5); have hmr5 := (Below.block q5 w.heap.size (lt_of_block hm4)).trans hm4; rw [hk', hv'])
                      | (refine wpList_entry_u _ rfl _ rfl _ _ _ _ _ _ en rfl hit5 hmr5 hmem LI.out.2 ?_; rw [hk', hv', ver]))
                    have FI := FD.out x'.id _ _ ((OwnV.on OM.out ((q3.alloc (.cells #[.int .u64 0, .string dd, .bool false, .int .i64 (i : Nat)] 25)).trans (q5.alloc (.cells #[.int .u64 (x'.id : Nat), .string x'.data, .bool x'.mark, .int .i64 x'.tm] 25)))).vers hLok.out)
                    rw [hfx] at FI
                    simp only [findR, ver] at FI
                    obtain ⟨ze, hze⟩ : ∃ z : Int, z = (if x'.mark = true then 13 else 0) := ⟨_, rfl⟩
                    rw [← hze] at FI
                    clear hze
                    have FI := Lib.hid FI
                    refine (FI.out).mono ?_
                    rintro e' w6 ⟨rfl, q6⟩
                    obtain ⟨y0, y1, y2, y3⟩ := box_of (q6.alloc (.cells #[.int .u64 (x'.id : Nat), .string x'.data, .bool x'.mark, .int .i64 x'.tm] 25))
                    have q7 := ((q5.alloc (.cells #[.int .u64 (x'.id : Nat), .string x'.data, .bool x'.mark, .int .i64 x'.tm] 25)).trans q6).alloc (.cells #[.int .u64 (x'.id : Nat), .string x'.data, .bool x'.mark, .int .i64 x'.tm] 25)
                    have hit7 := (Below.block ((((Q.refl _).alloc (.cells #[.int .u64 (x'.id : Nat), .string x'.data, .bool x'.mark, .int .i64 x'.tm] 25)).trans q6).alloc (.cells #[.int .u64 (x'.id : Nat), .string x'.data, .bool x'.mark, .int .i64 x'.tm] 25)) _ (lt_of_block hit5)).trans hit5
                    go_wp2
                    go_roundw
                    case rel => exact ⟨seen.push en.born, clock, hit7, Nat.le_refl _, q7⟩
                    case measure => simp only [leftIn, hit7, hit]; exact left_shrinks _ _ _ hen
          · obtain ⟨L, e, hD⟩ := putC_ex m 1 ⟨i + 1, dd, false, i⟩
            have OUT := keep_put HK.out hD (by omega) (by omega) (.inl rfl) rfl (by omega) hok (by simp)
            have hLok := Lib.hid (putC_okV hD HK.out.2.1 hok)
            have CA := Lib.hid (put_any m _ 1 ⟨i + 1, dd, false, i⟩ _ L e hD hml hok tm.out)
            clear hD
            obtain ⟨A3, c3, rfl⟩ := own_len hob
            rcases OUT with R | K
            · as_aux_lemma =>
                obtain ⟨R0, R6, R4, R1⟩ := R
                have r0 : ((e : Int) != 0) = true := by
                  have : ¬ (e : Int) = 0 := by omega
                  simpa using this
                go_wp2_with fail
                refine (CA.out).mono ?_
                rintro e' w2 ⟨v2, rfl, o2, q2⟩
                obtain ⟨e0, e1, e2⟩ := AT.out _ (qb.trans q2)
                rw [HX.out] at e1
                obtain ⟨b0, b1, b2, b3⟩ := box_of q2
                have hm2 : w2.heap[w.heap.size]? = some (.map es clock) := (Below.block q2 _ (lt_of_block hmb)).trans hmb
                by_cases h6 : e = 6
                · have h20 : ¬ (m.length : Int) < 20 := by have := R6 h6; omega
                  subst h6
                  clear R0 R6 R4 R1 r0
                  go_wp2
                  go_roundw
                  case rel => exact ⟨i + 1, m, es, clock, by omega, by omega, by go_num, OwnV.on hob q2, Lib.hid HK.out.more, hm2, Lib.hid HL.out.more, qb.trans q2⟩
                  case measure => simp [intOf]; omega
                · have n6 : ((e : Int) == 6) = false := by
                    have : ¬ (e : Int) = 6 := by omega
                    simpa using this
                  by_cases h4 : e = 4
                  · exact absurd (R4 h4) (by simp)
                  · by_cases h1 : e = 1
                    · have hd : ¬ (dd.size : Int) ≤ 2000 := by have h : 2000 < dd.size := R1 h1; omega
                      subst h1
                      clear R0 R6 R4 R1 r0 n6
                      go_wp2
                      go_roundw
                      case rel => exact ⟨i + 1, m, es, clock, by omega, by omega, by go_num, OwnV.on hob q2, Lib.hid HK.out.more, hm2, Lib.hid HL.out.more, qb.trans q2⟩
                      case measure => simp [intOf]; omega
                    · have n4 : ((e : Int) == 4) = false := by
                        have : ¬ (e : Int) = 4 := by omega
                        simpa using this
                      have n1 : ((e : Int) == 1) = false := by
                        have : ¬ (e : Int) = 1 := by omega
                        simpa using this
                      go_wp2
                      go_roundw
                      case rel => exact ⟨i + 1, m, es, clock, by omega, by omega, by go_num, OwnV.on hob q2, Lib.hid HK.out.more, hm2, Lib.hid HL.out.more, qb.trans q2⟩
                      case measure => simp [intOf]; omega
            · as_aux_lemma =>
                obtain ⟨rfl, K1, K2, -⟩ := K
                have hbase : w1.heap.size < (w1.alloc (.cells #[.int .u64 ((i : Int) + 1), .string dd, .bool false, .int .i64 (i : Nat)] 25)).heap.size := by simp
                have hm2' : ∀ b, Q (w1.alloc (.cells #[.int .u64 ((i : Int) + 1), .string dd, .bool false, .int .i64 (i : Nat)] 25)) b → b.heap[w.heap.size]? = some (.map es clock) := fun b q => (Below.block q _ (lt_of_block hmb)).trans hmb
                rw [if_pos rfl] at K2
                go_wp2_with fail
                refine (CA.out).mono ?_
                rintro e' w2 ⟨v2, rfl, o2, q2⟩
                have hm2 := hm2' _ q2
                have HB := blk_of q2
                obtain ⟨b0, b1, b2, b3⟩ := box_of q2
                obtain ⟨f0, f1, f2, f3⟩ := box_free q2
                have hfn : Instr.findNow (.int .u64) (.int .u64 ((i : Int) + 1)) es.toList 0 = some none := HL.out.none
                go_wp2_with (refine wpList_update_u _ rfl _ _ _ rfl _ es clock ((i : Int) + 1) (.agg #[.int .u64 ((i : Int) + 1), .string dd, .bool false, .int .i64 (i : Nat)]) rfl rfl rfl hm2 hfn ?_)
                have om := o2.setBlockAt (o := .map (es.push ⟨.int .u64 ((i : Int) + 1), .agg #[.int .u64 ((i : Int) + 1), .string dd, .bool false, .int .i64 (i : Nat)], clock⟩) (clock + 1)) (Nat.lt_trans hg hbase)
                have qm := (qb.trans q2).setBlock (Nat.le_refl _) (.map (es.push ⟨.int .u64 ((i : Int) + 1), .agg #[.int .u64 ((i : Int) + 1), .string dd, .bool false, .int .i64 (i : Nat)], clock⟩) (clock + 1))
                have hmm := ChangeMaps.heap_setBlock_same hm2 (.map (es.push ⟨.int .u64 ((i : Int) + 1), .agg #[.int .u64 ((i : Int) + 1), .string dd, .bool false, .int .i64 (i : Nat)], clock⟩) (clock + 1))
                have HBm := (ChangeMaps.heap_setBlock_other hm2 (.map (es.push ⟨.int .u64 ((i : Int) + 1), .agg #[.int .u64 ((i : Int) + 1), .string dd, .bool false, .int .i64 (i : Nat)], clock⟩) (clock + 1)) (Nat.ne_of_gt hg)).trans HB
                have LI : Hid (LaidI L (i + 1) _ (clock + 1)) := Lib.hid ((HL.out.kept K1).push (x := ⟨i + 1, dd, false, (i : Int)⟩) (by simp) (by simp) (by
                  obtain ⟨y, r, e⟩ : ∃ y r, L = y :: r := by
                    cases L with
                    | nil => simp at K2
                    | cons y r => exact ⟨y, r, rfl⟩
                  rw [e] at K2 ⊢
                  injection K2 with K2
                  rw [show y = ⟨i + 1, dd, false, (i : Int)⟩ from K2]
                  exact find_cons_eq))
                clear b0 b1 b2 b3 f0 f1 f2 f3
                have LK := Lib.hid K1
                have hL20 := K1.1.1.1
                have GI := get_any L v2 _ K1.1.1 (by omega) (om.vers hLok.out)
                rw [K2] at GI
                have GI : Calls Try.prog 22 #[v2] _ fun e w' => e = .returned (.tuple #[.agg #[.int .u64 ((i : Int) + 1), .string dd, .bool false, .int .i64 (i : Nat)], .int .i64 0]) ∧ Q _ w' := GI
                have GI := Lib.hid GI
                have HBm := Lib.hid HBm
                have OM := Lib.hid om
                have FD : Hid (∀ (n : Nat) b u, Vers b b.heap.size u L → Calls Try.prog 24 #[u, .int .u64 (n : Nat)] b fun e w' => e = .returned (findR (findV L n)) ∧ Q b w') := Lib.hid (fun n b u hu => find_any L u n b K1.1.1 (by omega) hu)
                have CK : Hid (∀ b u, Vers b b.heap.size u L → Calls Try.prog 17 #[u] b fun e w' => e = .returned (.int .i64 0) ∧ Q b w') := Lib.hid (fun b u hu => check_ok L u b K1.1.1 (by omega) hu)
                clear CA K1 HB hm2' hbase d0 d1 d2 hob om
                go_wp2_with fail
                refine (GI.out).mono ?_
                rintro e' w3 ⟨rfl, q3⟩
                have q4 := (qm.trans q3).alloc (.cells #[.int .u64 ((i : Int) + 1), .string dd, .bool false, .int .i64 (i : Nat)] 25)
                obtain ⟨g0, g1, g2, g3⟩ := blk_cell HBm.out (q3.alloc (.cells #[.int .u64 ((i : Int) + 1), .string dd, .bool false, .int .i64 (i : Nat)] 25))
                obtain ⟨e0, e1, e2⟩ := AT.out _ q4
                rw [HX.out] at e1
                have hm4 := (Below.block (q3.alloc (.cells #[.int .u64 ((i : Int) + 1), .string dd, .bool false, .int .i64 (i : Nat)] 25)) _ (lt_of_block hmm)).trans hmm
                have hsz1 : (w3.alloc (.cells #[.int .u64 ((i : Int) + 1), .string dd, .bool false, .int .i64 (i : Nat)] 25)).heap.size = w3.heap.size + 1 := World.size_alloc _ _
                go_wp2_with (refine wpList_range_u _ rfl _ rfl _ _ _ rfl hm4 ?_)
                simp only [Act.put, List.setIfInBounds_toArray, List.set_cons_zero, List.set_cons_succ, World.size_alloc]
                go_loopw [13, 14, 15, 16] (fun _ _ _ _ wr2 => ∃ (seen : Array Nat) (c0 : Nat), wr2.heap[w3.heap.size + 1]? = some (.mapIter (some w.heap.size) (clock + 1) seen c0) ∧ (clock + 1) ≤ c0 ∧ Q (w3.alloc (.cells #[.int .u64 ((i : Int) + 1), .string dd, .bool false, .int .i64 (i : Nat)] 25)) wr2) (fun _ _ _ _ wr2 => leftIn wr2 (w3.heap.size + 1) (es.push ⟨.int .u64 ((i : Int) + 1), .agg #[.int .u64 ((i : Int) + 1), .string dd, .bool false, .int .i64 (i : Nat)], clock⟩))
                case atStart => exact ⟨#[], (clock + 1), (by have := heap_alloc_new (w3.alloc (.cells #[.int .u64 ((i : Int) + 1), .string dd, .bool false, .int .i64 (i : Nat)] 25)) (.mapIter (some w.heap.size) (clock + 1) #[] (clock + 1)); rw [hsz1] at this; exact this), Nat.le_refl _, (Q.refl _).alloc _⟩
                case round =>
                  obtain ⟨seen, c0, hit, hc0, qr⟩ := hrel
                  have hmr := (Below.block qr w.heap.size (lt_of_block hm4)).trans hm4
                  have hold : ∀ e ∈ ((es.push ⟨.int .u64 ((i : Int) + 1), .agg #[.int .u64 ((i : Int) + 1), .string dd, .bool false, .int .i64 (i : Nat)], clock⟩)).toList, e.born < (clock + 1) := fun e he => (LI.out.1 e he).1
                  by_cases hleft : (leftOf (es.push ⟨.int .u64 ((i : Int) + 1), .agg #[.int .u64 ((i : Int) + 1), .string dd, .bool false, .int .i64 (i : Nat)], clock⟩) seen).size = 0
                  · have ow := OwnV.on OM.out ((q3.alloc (.cells #[.int .u64 ((i : Int) + 1), .string dd, .bool false, .int .i64 (i : Nat)] 25)).trans qr)
                    have tn := Lib.hid (ow.vers hLok.out)
                    go_wp2_with (refine wpList_next_u _ rfl _ rfl _ _ _ _ _ _ _ rfl hit hmr hold hc0 (fun _ => ?_) (fun e he => (left_empty hleft he).elim))
                    refine (CK.out _ _ tn.out).mono ?_
                    rintro e' w6 ⟨rfl, q6⟩
                    have hm6 := (Below.block q6 _ (lt_of_block hmr)).trans hmr
                    go_wp2
                    go_roundw
                    case rel => exact ⟨i + 1, L, (es.push ⟨.int .u64 ((i : Int) + 1), .agg #[.int .u64 ((i : Int) + 1), .string dd, .bool false, .int .i64 (i : Nat)], clock⟩), (clock + 1), by omega, by omega, by go_num, OwnV.lower (OwnV.on ow q6) (by simp; omega), Lib.hid LK.out.1, hm6, LI, (q4.trans qr).trans q6⟩
                    case measure => simp [intOf]; omega
                  · go_wp2_with (first
                      | (refine wpList_next_u _ rfl _ rfl _ _ _ _ _ _ _ rfl hit hmr hold hc0 (fun h => absurd h hleft) ?_; intro en hen w5 hw5; have hmem := (mem_left hen).1; obtain ⟨-, x', hk', hv', hx0, hxi, hfx⟩ := LI.out.1 en hmem; have q5 := (iter_q qr hw5).setBlock (b := w3.heap.size + 1) (Nat.le_of_eq hsz1) (.mapIter (some w.heap.size) (clock + 1) (seen.push en.born) (clock + 1)); have hit5 := iter_set (o' := .mapIter (some w.heap.size) (clock + 1) (seen.push en.born) (clock + 1)) (iter_at hit hw5); have hmr5 := (Below.block q5 w.heap.size (lt_of_block hm4)).trans hm4; rw [hk', hv'])
                      | (refine wpList_entry_u _ rfl _ rfl _ _ _ _ _ _ en rfl hit5 hmr5 hmem LI.out.2 ?_; rw [hk', hv', ver]))
                    have FI := FD.out x'.id _ _ ((OwnV.on OM.out ((q3.alloc (.cells #[.int .u64 ((i : Int) + 1), .string dd, .bool false, .int .i64 (i : Nat)] 25)).trans (q5.alloc (.cells #[.int .u64 (x'.id : Nat), .string x'.data, .bool x'.mark, .int .i64 x'.tm] 25)))).vers hLok.out)
                    rw [hfx] at FI
                    simp only [findR, ver] at FI
                    obtain ⟨ze, hze⟩ : ∃ z : Int, z = (if x'.mark = true then 13 else 0) := ⟨_, rfl⟩
                    rw [← hze] at FI
                    clear hze
                    have FI := Lib.hid FI
                    refine (FI.out).mono ?_
                    rintro e' w6 ⟨rfl, q6⟩
                    obtain ⟨y0, y1, y2, y3⟩ := box_of (q6.alloc (.cells #[.int .u64 (x'.id : Nat), .string x'.data, .bool x'.mark, .int .i64 x'.tm] 25))
                    have q7 := ((q5.alloc (.cells #[.int .u64 (x'.id : Nat), .string x'.data, .bool x'.mark, .int .i64 x'.tm] 25)).trans q6).alloc (.cells #[.int .u64 (x'.id : Nat), .string x'.data, .bool x'.mark, .int .i64 x'.tm] 25)
                    have hit7 := (Below.block ((((Q.refl _).alloc (.cells #[.int .u64 (x'.id : Nat), .string x'.data, .bool x'.mark, .int .i64 x'.tm] 25)).trans q6).alloc (.cells #[.int .u64 (x'.id : Nat), .string x'.data, .bool x'.mark, .int .i64 x'.tm] 25)) _ (lt_of_block hit5)).trans hit5
                    go_wp2
                    go_roundw
                    case rel => exact ⟨seen.push en.born, (clock + 1), hit7, Nat.le_refl _, q7⟩
                    case measure => simp only [leftIn, hit7, hit]; exact left_shrinks _ _ _ hen
          · obtain ⟨L, e, hD⟩ := putC_ex m 2 ⟨i + 1, dd, false, i⟩
            have OUT := keep_put HK.out hD (by omega) (by omega) (.inl rfl) rfl (by omega) hok (by simp)
            have hLok := Lib.hid (putC_okV hD HK.out.2.1 hok)
            have CA := Lib.hid (put_any m _ 2 ⟨i + 1, dd, false, i⟩ _ L e hD hml hok tm.out)
            clear hD
            obtain ⟨A3, c3, rfl⟩ := own_len hob
            rcases OUT with R | K
            · as_aux_lemma =>
                obtain ⟨R0, R6, R4, R1⟩ := R
                have r0 : ((e : Int) != 0) = true := by
                  have : ¬ (e : Int) = 0 := by omega
                  simpa using this
                go_wp2_with fail
                refine (CA.out).mono ?_
                rintro e' w2 ⟨v2, rfl, o2, q2⟩
                obtain ⟨e0, e1, e2⟩ := AT.out _ (qb.trans q2)
                rw [HX.out] at e1
                obtain ⟨b0, b1, b2, b3⟩ := box_of q2
                have hm2 : w2.heap[w.heap.size]? = some (.map es clock) := (Below.block q2 _ (lt_of_block hmb)).trans hmb
                by_cases h6 : e = 6
                · have h20 : ¬ (m.length : Int) < 20 := by have := R6 h6; omega
                  subst h6
                  clear R0 R6 R4 R1 r0
                  go_wp2
                  go_roundw
                  case rel => exact ⟨i + 1, m, es, clock, by omega, by omega, by go_num, OwnV.on hob q2, Lib.hid HK.out.more, hm2, Lib.hid HL.out.more, qb.trans q2⟩
                  case measure => simp [intOf]; omega
                · have n6 : ((e : Int) == 6) = false := by
                    have : ¬ (e : Int) = 6 := by omega
                    simpa using this
                  by_cases h4 : e = 4
                  · exact absurd (R4 h4) (by simp)
                  · by_cases h1 : e = 1
                    · have hd : ¬ (dd.size : Int) ≤ 2000 := by have h : 2000 < dd.size := R1 h1; omega
                      subst h1
                      clear R0 R6 R4 R1 r0 n6
                      go_wp2
                      go_roundw
                      case rel => exact ⟨i + 1, m, es, clock, by omega, by omega, by go_num, OwnV.on hob q2, Lib.hid HK.out.more, hm2, Lib.hid HL.out.more, qb.trans q2⟩
                      case measure => simp [intOf]; omega
                    · have n4 : ((e : Int) == 4) = false := by
                        have : ¬ (e : Int) = 4 := by omega
                        simpa using this
                      have n1 : ((e : Int) == 1) = false := by
                        have : ¬ (e : Int) = 1 := by omega
                        simpa using this
                      go_wp2
                      go_roundw
                      case rel => exact ⟨i + 1, m, es, clock, by omega, by omega, by go_num, OwnV.on hob q2, Lib.hid HK.out.more, hm2, Lib.hid HL.out.more, qb.trans q2⟩
                      case measure => simp [intOf]; omega
            · as_aux_lemma =>
                obtain ⟨rfl, K1, K2, -⟩ := K
                have hbase : w1.heap.size < (w1.alloc (.cells #[.int .u64 ((i : Int) + 1), .string dd, .bool false, .int .i64 (i : Nat)] 25)).heap.size := by simp
                have hm2' : ∀ b, Q (w1.alloc (.cells #[.int .u64 ((i : Int) + 1), .string dd, .bool false, .int .i64 (i : Nat)] 25)) b → b.heap[w.heap.size]? = some (.map es clock) := fun b q => (Below.block q _ (lt_of_block hmb)).trans hmb
                rw [if_neg (by omega)] at K2
                go_wp2_with fail
                refine (CA.out).mono ?_
                rintro e' w2 ⟨v2, rfl, o2, q2⟩
                have hm2 := hm2' _ q2
                have HB := blk_of q2
                obtain ⟨b0, b1, b2, b3⟩ := box_of q2
                obtain ⟨f0, f1, f2, f3⟩ := box_free q2
                go_wp2_with fail
                have om := o2.setAt (k := 0) (u := .int .u64 0) hbase
                have qm := (qb.trans q2).set (k := 0) (Nat.le_of_lt hg) (.int .u64 0)
                have hmm : (w2.setCell ⟨w1.heap.size, 0, none⟩ (.int .u64 0)).heap[w.heap.size]? = some (.map es clock) := by
                  refine Eq.trans ?_ hm2
                  show (w2.heap.modify w1.heap.size _)[w.heap.size]? = _
                  rw [Array.getElem?_modify, if_neg (by omega)]
                have HBm := blk_step (k := 0) (u := .int .u64 0) HB
                have LI := Lib.hid (HL.out.kept K1)
                clear b0 b1 b2 b3 f0 f1 f2 f3
                have LK := Lib.hid K1
                have hL20 := K1.1.1.1
                have GI := get_any L v2 _ K1.1.1 (by omega) (om.vers hLok.out)
                rw [K2] at GI
                have GI : Calls Try.prog 22 #[v2] _ fun e w' => e = .returned (.tuple #[.agg #[.int .u64 0, .string dd, .bool false, .int .i64 (i : Nat)], .int .i64 0]) ∧ Q _ w' := GI
                have GI := Lib.hid GI
                have HBm := Lib.hid HBm
                have OM := Lib.hid om
                have FD : Hid (∀ (n : Nat) b u, Vers b b.heap.size u L → Calls Try.prog 24 #[u, .int .u64 (n : Nat)] b fun e w' => e = .returned (findR (findV L n)) ∧ Q b w') := Lib.hid (fun n b u hu => find_any L u n b K1.1.1 (by omega) hu)
                have CK : Hid (∀ b u, Vers b b.heap.size u L → Calls Try.prog 17 #[u] b fun e w' => e = .returned (.int .i64 0) ∧ Q b w') := Lib.hid (fun b u hu => check_ok L u b K1.1.1 (by omega) hu)
                clear CA K1 HB hm2' hbase d0 d1 d2 hob om
                go_wp2_with fail
                refine (GI.out).mono ?_
                rintro e' w3 ⟨rfl, q3⟩
                have q4 := (qm.trans q3).alloc (.cells #[.int .u64 0, .string dd, .bool false, .int .i64 (i : Nat)] 25)
                obtain ⟨g0, g1, g2, g3⟩ := blk_cell HBm.out (q3.alloc (.cells #[.int .u64 0, .string dd, .bool false, .int .i64 (i : Nat)] 25))
                obtain ⟨e0, e1, e2⟩ := AT.out _ q4
                rw [HX.out] at e1
                have hm4 := (Below.block (q3.alloc (.cells #[.int .u64 0, .string dd, .bool false, .int .i64 (i : Nat)] 25)) _ (lt_of_block hmm)).trans hmm
                have hsz1 : (w3.alloc (.cells #[.int .u64 0, .string dd, .bool false, .int .i64 (i : Nat)] 25)).heap.size = w3.heap.size + 1 := World.size_alloc _ _
                go_wp2_with (refine wpList_range_u _ rfl _ rfl _ _ _ rfl hm4 ?_)
                simp only [Act.put, List.setIfInBounds_toArray, List.set_cons_zero, List.set_cons_succ, World.size_alloc]
                go_loopw [13, 14, 15, 16] (fun _ _ _ _ wr2 => ∃ (seen : Array Nat) (c0 : Nat), wr2.heap[w3.heap.size + 1]? = some (.mapIter (some w.heap.size) clock seen c0) ∧ clock ≤ c0 ∧ Q (w3.alloc (.cells #[.int .u64 0, .string dd, .bool false, .int .i64 (i : Nat)] 25)) wr2) (fun _ _ _ _ wr2 => leftIn wr2 (w3.heap.size + 1) es)
                case atStart => exact ⟨#[], clock, (by have := heap_alloc_new (w3.alloc (.cells #[.int .u64 0, .string dd, .bool false, .int .i64 (i : Nat)] 25)) (.mapIter (some w.heap.size) clock #[] clock); rw [hsz1] at this; exact this), Nat.le_refl _, (Q.refl _).alloc _⟩
                case round =>
                  obtain ⟨seen, c0, hit, hc0, qr⟩ := hrel
                  have hmr := (Below.block qr w.heap.size (lt_of_block hm4)).trans hm4
                  have hold : ∀ e ∈ (es).toList, e.born < clock := fun e he => (LI.out.1 e he).1
                  by_cases hleft : (leftOf es seen).size = 0
                  · have ow := OwnV.on OM.out ((q3.alloc (.cells #[.int .u64 0, .string dd, .bool false, .int .i64 (i : Nat)] 25)).trans qr)
                    have tn := Lib.hid (ow.vers hLok.out)
                    go_wp2_with (refine wpList_next_u _ rfl _ rfl _ _ _ _ _ _ _ rfl hit hmr hold hc0 (fun _ => ?_) (fun e he => (left_empty hleft he).elim))
                    refine (CK.out _ _ tn.out).mono ?_
                    rintro e' w6 ⟨rfl, q6⟩
                    have hm6 := (Below.block q6 _ (lt_of_block hmr)).trans hmr
                    go_wp2
                    go_roundw
                    case rel => exact ⟨i + 1, L, es, clock, by omega, by omega, by go_num, OwnV.lower (OwnV.on ow q6) (by simp; omega), Lib.hid LK.out.1, hm6, LI, (q4.trans qr).trans q6⟩
                    case measure => simp [intOf]; omega
                  · go_wp2_with (first
                      | (refine wpList_next_u _ rfl _ rfl _ _ _ _ _ _ _ rfl hit hmr hold hc0 (fun h => absurd h hleft) ?_; intro en hen w5 hw5; have hmem := (mem_left hen).1; obtain ⟨-, x', hk', hv', hx0, hxi, hfx⟩ := LI.out.1 en hmem; have q5 := (iter_q qr hw5).setBlock (b := w3.heap.size + 1) (Nat.le_of_eq hsz1) (.mapIter (some w.heap.size) clock (seen.push en.born) clock); have hit5 := iter_set (o' := .mapIter (some w.heap.size) clock (seen.push en.born) clock) (iter_at hit hw5); have hmr5 := (Below.block q5 w.heap.size (lt_of_block hm4)).trans hm4; rw [hk', hv'])
                      | (refine wpList_entry_u _ rfl _ rfl _ _ _ _ _ _ en rfl hit5 hmr5 hmem LI.out.2 ?_; rw [hk', hv', ver]))
                    have FI := FD.out x'.id _ _ ((OwnV.on OM.out ((q3.alloc (.cells #[.int .u64 0, .string dd, .bool false, .int .i64 (i : Nat)] 25)).trans (q5.alloc (.cells #[.int .u64 (x'.id : Nat), .string x'.data, .bool x'.mark, .int .i64 x'.tm] 25)))).vers hLok.out)
                    rw [hfx] at FI
                    simp only [findR, ver] at FI
                    obtain ⟨ze, hze⟩ : ∃ z : Int, z = (if x'.mark = true then 13 else 0) := ⟨_, rfl⟩
                    rw [← hze] at FI
                    clear hze
                    have FI := Lib.hid FI
                    refine (FI.out).mono ?_
                    rintro e' w6 ⟨rfl, q6⟩
                    obtain ⟨y0, y1, y2, y3⟩ := box_of (q6.alloc (.cells #[.int .u64 (x'.id : Nat), .string x'.data, .bool x'.mark, .int .i64 x'.tm] 25))
                    have q7 := ((q5.alloc (.cells #[.int .u64 (x'.id : Nat), .string x'.data, .bool x'.mark, .int .i64 x'.tm] 25)).trans q6).alloc (.cells #[.int .u64 (x'.id : Nat), .string x'.data, .bool x'.mark, .int .i64 x'.tm] 25)
                    have hit7 := (Below.block ((((Q.refl _).alloc (.cells #[.int .u64 (x'.id : Nat), .string x'.data, .bool x'.mark, .int .i64 x'.tm] 25)).trans q6).alloc (.cells #[.int .u64 (x'.id : Nat), .string x'.data, .bool x'.mark, .int .i64 x'.tm] 25)) _ (lt_of_block hit5)).trans hit5
                    go_wp2
                    go_roundw
                    case rel => exact ⟨seen.push en.born, clock, hit7, Nat.le_refl _, q7⟩
                    case measure => simp only [leftIn, hit7, hit]; exact left_shrinks _ _ _ hen
      · have h30' : ¬ (i : Int) < 30 := by omega
        have hilt : (i : Int) < (l.length : Int) := by omega
        go_wp2_with fail
        refine (awake_any _).mono ?_
        rintro e w1 ⟨rfl, q1⟩
        go_wp2
        go_ret
        exact ⟨rfl, q.trans q1⟩
    · have hilt : ¬ (i : Int) < (l.length : Int) := by omega
      go_wp2_with fail
      refine (awake_any _).mono ?_
      rintro e w1 ⟨rfl, q1⟩
      go_wp2
      go_ret
      exact ⟨rfl, q.trans q1⟩

set_option maxRecDepth 100000 in
theorem lifted (os : Os) (started : os.Started) (H : Type) (enc : TypeId × Value → H) :
    ReturnsInHanded {} Try.checked os 5 .any (Rows.chainKeepsSpec.pre6 enc Try.prog Try.f5 Rows.chainKeepsRow.domain false) (Rows.chainKeepsSpec.post enc Try.prog Try.f5 false true false false) := by
  refine returnsInHanded_of_change (C := Try.checked) own started (by kernel_rfl) Try.func5
    (ChangeSpec.witness6 (enc := enc) (C := Try.checked) false ⟨#[], #[.slice none 0 0], []⟩ 8 (by kernel_rfl) (by kernel_rfl) (by kernel_rfl) (by kernel_rfl)) ?_
  intro W base args ds gs before hval0 hW hcnd _
  have hval : ∀ (j : Nat) t v, Try.f5.params[j]? = some t → args[j]? = some v → Value.okWide Try.prog W .any base t v := hval0
  have hW' := hW
  obtain ⟨p, q, hA0, hV, rfl, hfz, hnd⟩ := hW
  have hA : DataW.TrodAll enc Try.prog W 0 (fun _ => true) true Try.f5.params.toList args.toList ds p := hA0
  rw [Try.params5] at hA hval
  obtain ⟨v0, vs0, d0, ds0, p0, q0, hargs, rfl, rfl, h0, r0⟩ := trodAll_cons hA
  obtain ⟨rfl, rfl, rfl⟩ := trodAll_nil r0
  obtain rfl : args = #[v0] := by cases args; simp_all
  obtain ⟨rfl, rfl⟩ := trodVars_none hV
  clear hA0 hval0
  simp only [List.append_nil] at hW'
  have hlt : ∀ x ∈ p0, x.block < W.heap.size := fun x hx => by simpa using hW'.lt x (by simpa using hx)
  obtain ⟨l0, t0, z0⟩ := open_acts (hval 0 49 v0 rfl rfl) h0
  refine (walk l0 v0 W t0 z0).mono fun e W' ⟨he, bel⟩ => ?_
  subst he
  refine ⟨_, rfl, _, _, _, [], _, [], hW', trodAll_mk1 (shut_bool Try.underlying4 _), (trodAll_cons_mk (Below.trod laid (by kernel_rfl) (of_decide_eq_true (by kernel_rfl)) h0 bel (fun x hx => hlt x (by simp [hx]))) trodAll_mk0), rfl, Below.frame bel _, fun h => by cases h⟩

theorem over : Rows.chainKeepsRow.holds Try.pinned (OpenSpec.ofChange Rows.chainKeepsSpec) :=
  OpenClaim.holds_of_wide 5 Try.f5 rfl rfl rfl rfl rfl rfl rfl ⟨rfl, rfl, rfl, rfl, rfl⟩ rfl rfl rfl rfl rfl (by kernel_rfl) Try.func5 (by kernel_rfl)
    (of_decide_eq_true (by kernel_rfl)) (by unfold Func.isWrapper; first | (rw [if_pos (by decide +kernel)]; kernel_rfl) | (rw [if_neg (by decide +kernel)]; exact ⟨rfl, rfl⟩))
    (fun os started H enc _ => lifted os started H enc)

theorem proved : Rows.ChainKeepsSaid := over
#print axioms proved
end Go.Proofs.Ytflfhigldkdlmaa.chainKeeps
