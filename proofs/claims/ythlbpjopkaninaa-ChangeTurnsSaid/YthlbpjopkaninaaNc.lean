/-
  Contracts of the document's last and With. Plain facts on what is told of changes. Plain facts on what rises, and on changes one behind the other. Notes: as values, as cells, as slices that are read, as rows that a call makes. Plain facts on notes: which counts of a name, all that count, the items, what is live, the greatest stamp.
-/
import Derived.Test.YthlbpjopkaninaaNb
import Derived.Deep.DeepCutAuto
import Derived.Test.YthlbpjopkaninaaNa
namespace Go.Proofs.Ythlbpjopkaninaa
set_option maxRecDepth 100000
open Go.ChangeShapes Go.WideShapes Go.ChangeAt Go.RowKit
set_option linter.unusedVariables false
set_option linter.unusedSimpArgs false
set_option maxHeartbeats 16000000 in
theorem rwith_any (l : List Itm) (c : List Chg) (lv cv : Value) (w : World) (hl : l.length ≤ 400) (hc : c.length ≤ 400) (hs : ∀ x ∈ l, okIZ x) (ht : Itms w w.heap.size lv l) (hk : Chgs w w.heap.size cv c) :
    Calls Try.prog 31 #[lv, cv] w fun e w' => ∃ v', e = .returned v' ∧ OwnI w.heap.size w' v' (withI l c) ∧ Q w w' := by
  obtain ⟨A, c1, rfl, -, -, hok, hcells⟩ := ht
  obtain ⟨B, c2, rfl, -, -, hok2, hcells2⟩ := hk
  have HC := Lib.hid hcells
  have HD := Lib.hid hcells2
  have HK2 := Lib.hid hok2
  have HI0 : Hid (∀ i, ∀ x ∈ ofI (l.take i), okIZ x) := Lib.hid (fun i x hx => hs x (List.mem_of_mem_take (ofI_sub hx)))
  have HI1 : Hid (∀ i, ∀ x ∈ (c.take i).foldl stepC (ofI l), okIZ x) := Lib.hid (fun i => foldC_all (p := fun n v => n.size ≤ maxLen ∧ v.size ≤ maxLen) (fun x hx => hs x (ofI_sub hx)) (fun x hx => by have := hok2 x (List.mem_of_mem_take hx); exact ⟨this.1, this.2.1⟩))
  have HLN : Hid (∀ i, (ofI (l.take i)).length ≤ 400) := Lib.hid (fun i => by have := ofI_len (l.take i); rw [List.length_take] at this; omega)
  have HLM : Hid (∀ i, ((c.take i).foldl stepC (ofI l)).length ≤ 800) := Lib.hid (fun i => by have := foldC_len (c.take i) (ofI l); have := ofI_len l; rw [List.length_take] at *; omega)
  have HS := Lib.hid hs
  clear hcells hcells2 hok hok2 hs
  go_enter Try.func31, Try.ntmps31
  go_wp2_with fail
  go_loopw [5, 6] (fun O I wr => ∃ i : Nat, i ≤ l.length ∧ I = .int .i64 i ∧ OwnI w.heap.size wr O (ofI (l.take i)) ∧ Q w wr) (fun _ I _ => l.length - (intOf I).toNat)
  case atStart => exact ⟨0, Nat.zero_le _, rfl, OwnI.nil _ _, Q.refl _⟩
  case round =>
    obtain ⟨i, hil, rfl, hown, hbel⟩ := hrel
    have hz := hbel.size
    by_cases hlt : i < l.length
    · obtain ⟨a, hAa, ha, hat⟩ := HC.out i hlt
      subst hAa
      obtain ⟨c0, c1⟩ := hat.keep (by rw [add_block]; exact ha) fun p hp => hbel.cell hp
      have HW := Lib.hid (ofI_take l i hlt)
      have hy0 := HS.out _ (List.getElem_mem hlt)
      obtain ⟨y, hy⟩ : ∃ y, y = l[i] := ⟨_, rfl⟩
      rw [← hy] at c0 c1 HW hy0
      clear hy hat
      have hilt : (i : Int) < (l.length : Int) := by omega
      have hrd := OwnI.read hown (HI0.out i)
      have hln := HLN.out i
      have C := Lib.hid (rin_any _ y _ wr (by omega) hy0 hrd)
      rw [itm] at C
      clear hrd hy0
      go_wp2_with fail
      refine (C.out).mono ?_
      rintro e w1 ⟨v1, rfl, o1, q1⟩
      rw [← HW.out] at o1
      go_wp2_with fail
      go_roundw
      case rel => exact ⟨i + 1, by omega, by go_num, OwnI.low o1 hz, hbel.trans q1⟩
      case measure => simp [intOf]; omega
    · have h2 : ¬ (i : Int) < (l.length : Int) := by omega
      rw [List.take_of_length_le (by omega)] at hown
      have hown0 : OwnI w.heap.size wr u5 ((c.take 0).foldl stepC (ofI l)) := hown
      clear hown
      go_wp2_with fail
      go_loopw [5, 7] (fun O I wr => ∃ i : Nat, i ≤ c.length ∧ I = .int .i64 i ∧ OwnI w.heap.size wr O ((c.take i).foldl stepC (ofI l)) ∧ Q w wr) (fun _ I _ => c.length - (intOf I).toNat)
      case atStart => exact ⟨0, Nat.zero_le _, rfl, hown0, hbel⟩
      case round =>
        clear hown0 hbel hz h2 hlt hil
        obtain ⟨i, hil, rfl, hown, hbel⟩ := hrel
        have hz := hbel.size
        by_cases hlt : i < c.length
        · obtain ⟨a, hAa, ha, hat⟩ := HD.out i hlt
          subst hAa
          have hq := hat.keep (by rw [add_block]; exact ha) fun p hp => hbel.cell hp
          have HW := Lib.hid (withI_take l c i hlt)
          have hy0 := HK2.out _ (List.getElem_mem hlt)
          obtain ⟨y, hy⟩ : ∃ y, y = c[i] := ⟨_, rfl⟩
          rw [← hy] at hq HW hy0
          clear hy hat
          have hilt : (i : Int) < (c.length : Int) := by omega
          have hrd := OwnI.read hown (HI1.out i)
          have hln := HLM.out i
          have ho1 : okIZ ⟨y.n, y.val⟩ := ⟨hy0.1, hy0.2.1⟩
          have C : Hid (∀ x, Q wr x → Calls Try.prog 46 #[u5, .agg #[.string y.n, .string y.val]] x fun e w' => ∃ v', e = .returned v' ∧ OwnI x.heap.size w' v' (inG Itm.n ((c.take i).foldl stepC (ofI l)) ⟨y.n, y.val⟩) ∧ Q x w') := Lib.hid (fun x q => rin_any _ ⟨y.n, y.val⟩ _ x (by omega) ho1 (hrd.on q))
          have HQ := Lib.hid hq
          have KS : Hid (∀ b, Q wr b → (fun w' => w'.cell? (a.add (i * 3)) = some (.string y.n) ∧ w'.cell? ⟨(a.add (i * 3)).block, (a.add (i * 3)).off + 1, none⟩ = some (.string y.val) ∧ w'.cell? ⟨(a.add (i * 3)).block, (a.add (i * 3)).off + 2, none⟩ = some (.bool y.gone) ∧ Q wr w') b) := Lib.hid (by
            intro b q
            obtain ⟨k0, k1, k2⟩ := HQ.out.keep (B := wr.heap.size) (by rw [add_block]; omega) fun _ hp => q.cell hp
            exact ⟨k0, k1, k2, q⟩)
          have SN := Lib.hid (KS.out _ (Q.refl wr).drew)
          clear hrd hq
          have hz2 := hown.form
          clear hown
          go_wp2_with fail
          refine wp_region_held_drew (S := (fun w' => w'.cell? (a.add (i * 3)) = some (.string y.n) ∧ w'.cell? ⟨(a.add (i * 3)).block, (a.add (i * 3)).off + 1, none⟩ = some (.string y.val) ∧ w'.cell? ⟨(a.add (i * 3)).block, (a.add (i * 3)).off + 2, none⟩ = some (.bool y.gone) ∧ Q wr w')) (by kernel_rfl) SN.out (fun hHeld => ?_)
          refine tkV 0 ?_
          refine tkV 1 ?_
          refine tkV 2 ?_
          refine tkV 3 ?_
          refine tkV 4 ?_
          refine tkV 5 ?_
          refine tkV 6 ?_
          refine tkV 7 ?_
          refine tkV 8 ?_
          refine tkV 9 ?_
          refine tkV 10 ?_
          refine tkV 11 ?_
          refine aR [12] ?_
          refine AllReadyH.cons (o := _) rfl (fun K hK => ?_) AllReadyH.nil
          go_simp
          go_at_call 46
          refine (C.out _ hHeld.2.2.2).mono ?_
          rintro e w1 ⟨v1, rfl, o1, q1⟩
          have q2 := hHeld.2.2.2.trans q1
          have hS := KS.out _ q2
          refine hK.out _ _ hS (fun hHeld2 => ?_)
          clear hK K
          refine pg ?_
          refine tkV 13 ?_
          refine wpAnyH_done (by kernel_rfl) ?_ _
          obtain ⟨k0, k1, k2, -⟩ := hS
          have hz3 := q1.size
          have o2 := OwnI.low o1 (b2 := w.heap.size) (by have := hHeld.2.2.2.size; omega)
          have q3 := hbel.trans q2
          clear hHeld hHeld2 SN KS C q1 q2 o1 hbel HQ
          have HGL : Hid (∀ G, G = inG Itm.n ((c.take i).foldl stepC (ofI l)) ⟨y.n, y.val⟩ → G.length ≤ 801) := Lib.hid (fun G h => by rw [h]; have := inG_len Itm.n ((c.take i).foldl stepC (ofI l)) ⟨y.n, y.val⟩; omega)
          have HGO : Hid (∀ G, G = inG Itm.n ((c.take i).foldl stepC (ofI l)) ⟨y.n, y.val⟩ → ∀ x ∈ G, okIZ x) := Lib.hid (fun G h x hx => by
            rw [h] at hx
            rcases inG_mem.1 hx with rfl | ⟨k, -⟩
            · exact ho1
            · exact HI1.out i x k)
          have HW1 : Hid (∀ G, G = inG Itm.n ((c.take i).foldl stepC (ofI l)) ⟨y.n, y.val⟩ → (c.take (i + 1)).foldl stepC (ofI l) = if y.gone = true then G.filter (fun z => decide (z.n ≠ y.n)) else G) := Lib.hid (fun G h => by rw [HW.out, h]; rfl)
          obtain ⟨G, hG⟩ : ∃ G, G = inG Itm.n ((c.take i).foldl stepC (ofI l)) ⟨y.n, y.val⟩ := ⟨_, rfl⟩
          have hGL := HGL.out G hG
          have HGK := Lib.hid (HGO.out G hG)
          have HWG := Lib.hid (HW1.out G hG)
          rw [← hG] at o2
          clear hG HGL HGO HW1 HW hln ho1 hz hz2 hz3
          cases hgn : y.gone with
          | false =>
            rw [hgn] at k2
            have HWF : Hid ((c.take (i + 1)).foldl stepC (ofI l) = G) := Lib.hid (by rw [HWG.out, if_neg (by rw [hgn]; decide)])
            rw [← HWF.out] at o2
            clear HWG hgn
            go_wp2_with fail
            go_roundw
            case rel => exact ⟨i + 1, by omega, by go_num, o2, q3⟩
            case measure => simp [intOf]; omega
          | true =>
            rw [hgn] at k2
            have HWF : Hid ((c.take (i + 1)).foldl stepC (ofI l) = G.filter (fun z => decide (z.n ≠ y.n))) := Lib.hid (by rw [HWG.out, if_pos hgn])
            clear HWG hgn
            have hrd := OwnI.read o2 HGK.out
            have hb1 := q3.size
            obtain ⟨A', c', rfl, -, -, -, hcG⟩ := hrd
            have HG := Lib.hid hcG
            have k0H := Lib.hid k0
            have ha2 : (a.add (i * 3)).block < w1.heap.size := by rw [add_block]; omega
            clear hcG o2 k1 k0
            go_wp2_with fail
            go_loopw [8, 9] (fun O I wr2 => ∃ j : Nat, j ≤ G.length ∧ I = .int .i64 j ∧ OwnI w1.heap.size wr2 O ((G.take j).filter (fun z => decide (z.n ≠ y.n))) ∧ Q w1 wr2) (fun _ I _ => G.length - (intOf I).toNat)
            case atStart => exact ⟨0, Nat.zero_le _, rfl, OwnI.nil _ _, Q.refl _⟩
            case round =>
              obtain ⟨j, hjl, rfl, hown, q⟩ := hrel
              have hz := q.size
              by_cases hjt : j < G.length
              · obtain ⟨aG, hAG, haG, hatG⟩ := HG.out j hjt
                subst hAG
                obtain ⟨d0, d1⟩ := hatG.keep (by rw [add_block]; exact haG) fun p hp => q.cell hp
                have e0 := (q.cell ha2).trans k0H.out
                have HF := filt_takeI G j hjt (fun z => decide (z.n ≠ y.n))
                have hlen := filt_leI G j (fun z => decide (z.n ≠ y.n))
                obtain ⟨z, hzz⟩ : ∃ z, z = G[j] := ⟨_, rfl⟩
                rw [← hzz] at d0 d1 HF
                clear hzz hatG
                have hjlt : (j : Int) < (G.length : Int) := by omega
                by_cases hn : z.n = y.n
                · have HW2 := Lib.hid (HF.2 (by simp [hn]))
                  have he : (z.n.toList == y.n.toList) = true := by rw [hn]; simp
                  clear HF hn
                  go_wp2_with fail
                  go_region
                  go_wp2
                  go_roundw
                  case rel => exact ⟨j + 1, by omega, by go_num, by rw [HW2.out]; exact OwnI.on hown (Q.refl _).drew, q.drew⟩
                  case measure => simp [intOf]; omega
                · have HW2 := Lib.hid (HF.1 (by simp [hn]))
                  have he : (z.n.toList == y.n.toList) = false := key_neZ hn
                  clear HF hn
                  go_wp2_with fail
                  go_region
                  obtain ⟨wd, hwd⟩ : ∃ z, z = wr.drew := ⟨_, rfl⟩
                  rw [← hwd]
                  have hown := OwnI.on hown (Q.refl wr).drew
                  have hbel := q.drew
                  have d0 : wr.drew.cell? (aG.add (j * 2)) = some (.string z.n) := d0
                  have d1 : wr.drew.cell? ⟨(aG.add (j * 2)).block, (aG.add (j * 2)).off + 1, none⟩ = some (.string z.val) := d1
                  rw [← hwd] at hown hbel d0 d1
                  have hs := hbel.size
                  clear hwd q hz
                  go_wp2_with (at_builtin; refine wpList_snoc_itm _ rfl _ _ 45 58 Try.underlying45 rfl w1.heap.size wd.heap.size _ ((G.take j).filter (fun z => decide (z.n ≠ y.n))) z rfl rfl (cells_itm1 wd z 58) (World.ownsRow.alloc hown _) ?hb ?hl ?_; (case hb => simp; omega); (case hl => omega); intro v1 w2 h1 h2; have b1 := OwnI.grown (World.ownsRow.alloc hown _) (Below.alloc hbel hs _) (by simp; omega) h2; rw [← HW2.out] at h1; clear h2)
                  go_roundw
                  case rel => exact ⟨j + 1, by omega, by go_num, h1, b1⟩
                  case measure => simp [intOf]; omega
              · have h2 : ¬ (j : Int) < (G.length : Int) := by omega
                rw [List.take_of_length_le (by omega), ← HWF.out] at hown
                go_wp2_with fail
                go_roundw
                case rel => exact ⟨i + 1, by omega, by go_num, OwnI.low hown hb1, q3.trans q⟩
                case measure => simp [intOf]; omega
        · have h2 : ¬ (i : Int) < (c.length : Int) := by omega
          rw [List.take_of_length_le (by omega)] at hown
          go_wp2
          go_ret
          exact ⟨_, rfl, hown, hbel⟩
end Go.Proofs.Ythlbpjopkaninaa

namespace Go.Proofs.Ythlbpjopkaninaa
set_option maxRecDepth 100000
set_option linter.unusedVariables false
set_option linter.unusedSimpArgs false
def lookI (A : List Itm) (k : ByteArray) : Option ByteArray := (A.find? (fun y => decide (y.n = k))).map (·.val)
/-- What is told of a name. -/
def chgOf (A B : List Itm) (k : ByteArray) : List Chg :=
  match lookI A k, lookI B k with
  | none, some s => [⟨k, s, false⟩]
  | some t, some s => if t = s then [] else [⟨k, s, false⟩]
  | some _, none => [⟨k, ⟨#[]⟩, true⟩]
  | none, none => []
def diffP (A B all : List Itm) : List Chg := all.flatMap fun x => chgOf A B x.n
end Go.Proofs.Ythlbpjopkaninaa

namespace Go.Proofs.Ythlbpjopkaninaa
set_option maxRecDepth 100000
set_option linter.unusedVariables false
set_option linter.unusedSimpArgs false
theorem foldI_self {o l : List Itm} (ho : Asc Itm.n o) (hl : Asc Itm.n l) : ∀ x, x ∈ l.foldl (inG Itm.n) o ↔ x ∈ l ∨ (x ∈ o ∧ ∀ y ∈ l, y.n ≠ x.n) := by
  induction l generalizing o with
  | nil => intro x; simp
  | cons z r ih =>
    intro x
    obtain ⟨h1, h2⟩ := List.pairwise_cons.1 hl
    rw [List.foldl_cons, ih (inG_asc ho z) h2, inG_mem]
    simp only [List.mem_cons]
    constructor
    · rintro (h | ⟨rfl | ⟨h, k⟩, n⟩)
      · exact .inl (.inr h)
      · exact .inl (.inl rfl)
      · exact .inr ⟨h, fun y hy => by rcases hy with rfl | hy; exact fun e => k e.symm; exact n y hy⟩
    · rintro ((rfl | h) | ⟨h, n⟩)
      · exact .inr ⟨.inl rfl, fun y hy e => ltB_neZ (h1 y hy) e.symm⟩
      · exact .inl h
      · exact .inr ⟨.inr ⟨h, fun e => n z (.inl rfl) e.symm⟩, fun y hy => n y (.inr hy)⟩
theorem ofI_self {l : List Itm} (h : Asc Itm.n l) : ofI l = l :=
  Asc.same (f := Itm.n) (ofI_asc l) h fun x => by unfold ofI; rw [foldI_self Asc.nil h]; simp
theorem stepC_mem {o : List Itm} (h : Asc Itm.n o) (c : Chg) (z : Itm) : z ∈ stepC o c ↔ (c.gone = false ∧ z = ⟨c.n, c.val⟩) ∨ (z ∈ o ∧ z.n ≠ c.n) := by
  cases g : c.gone with
  | true =>
    rw [stepC_gone h g, List.mem_filter]
    simp
  | false =>
    unfold stepC
    rw [if_neg (by rw [g]; decide), inG_mem]
    simp
theorem foldC_mem {c : List Chg} (hc : c.Pairwise (fun x y => x.n ≠ y.n)) {o : List Itm} (ho : Asc Itm.n o) (z : Itm) :
    z ∈ c.foldl stepC o ↔ (∃ x ∈ c, x.gone = false ∧ z = ⟨x.n, x.val⟩) ∨ (z ∈ o ∧ ∀ x ∈ c, x.n ≠ z.n) := by
  induction c generalizing o with
  | nil => simp
  | cons y r ih =>
    obtain ⟨h1, h2⟩ := List.pairwise_cons.1 hc
    rw [List.foldl_cons, ih h2 (stepC_asc ho y), stepC_mem ho]
    constructor
    · rintro (⟨x, hx, k⟩ | ⟨⟨g, rfl⟩ | ⟨h, k⟩, n⟩)
      · exact .inl ⟨x, List.mem_cons_of_mem _ hx, k⟩
      · exact .inl ⟨y, by simp, g, rfl⟩
      · refine .inr ⟨h, fun x hx => ?_⟩
        rcases List.mem_cons.1 hx with rfl | hx
        · exact fun e => k e.symm
        · exact n x hx
    · rintro (⟨x, hx, g, e⟩ | ⟨h, n⟩)
      · rcases List.mem_cons.1 hx with rfl | hx
        · refine .inr ⟨.inl ⟨g, e⟩, fun u hu q => h1 u hu ?_⟩
          rw [e] at q; exact q.symm
        · exact .inl ⟨x, hx, g, e⟩
      · exact .inr ⟨.inr ⟨h, fun e => n y (by simp) e.symm⟩, fun x hx => n x (List.mem_cons_of_mem _ hx)⟩
end Go.Proofs.Ythlbpjopkaninaa

namespace Go.Proofs.Ythlbpjopkaninaa
set_option maxRecDepth 100000
open Go.ChangeShapes Go.WideShapes Go.ChangeAt Go.RowKit
set_option linter.unusedVariables false
set_option linter.unusedSimpArgs false
set_option maxRecDepth 100000
/-- cellarer/api.Note, as a value, and as it lies in memory. -/
structure Nte where
  st : Nat
  n : ByteArray
  val : ByteArray
  gone : Bool
def nte (v : Nte) : Value := .agg #[.int .u64 (v.st : Nat), .string v.n, .string v.val, .bool v.gone]
def ncl (v : Nte) : List Value := [.int .u64 (v.st : Nat), .string v.n, .string v.val, .bool v.gone]
def okW (v : Nte) : Prop := v.st < 18446744073709551616 ∧ v.n.size ≤ maxLen ∧ v.val.size ≤ maxLen ∧ True
/-- It lies at p. -/
def AtW (w : World) (p : Addr) (v : Nte) : Prop :=
  w.cell? p = some (.int .u64 (v.st : Nat)) ∧ w.cell? ⟨p.block, p.off + 1, none⟩ = some (.string v.n) ∧ w.cell? ⟨p.block, p.off + 2, none⟩ = some (.string v.val) ∧ w.cell? ⟨p.block, p.off + 3, none⟩ = some (.bool v.gone)
/-- A slice whose elements are these; all of it lies below block B. -/
def Ntes (w : World) (B : Nat) (v : Value) (l : List Nte) : Prop :=
  ∃ A c, v = .slice A l.length c ∧ l.length ≤ c ∧ (A = none → c = 0) ∧ (∀ x ∈ l, okW x) ∧ ∀ k (h : k < l.length), ∃ a : Addr, A = some a ∧ a.block < B ∧ AtW w (a.add (k * 4)) l[k]
theorem AtW.keep {w w' : World} {p : Addr} {v : Nte} (h : AtW w p v) {B : Nat} (hp : p.block < B) (k : ∀ p : Addr, p.block < B → w'.cell? p = w.cell? p) : AtW w' p v :=
  ⟨(k p hp).trans h.1, (k ⟨p.block, p.off + 1, none⟩ hp).trans h.2.1, (k ⟨p.block, p.off + 2, none⟩ hp).trans h.2.2.1, (k ⟨p.block, p.off + 3, none⟩ hp).trans h.2.2.2⟩
theorem Ntes.keep {w w' : World} {B : Nat} {v : Value} {l : List Nte} (h : Ntes w B v l) (k : ∀ p : Addr, p.block < B → w'.cell? p = w.cell? p) : Ntes w' B v l := by
  obtain ⟨A, c, e, e0, ez, eo, f⟩ := h
  refine ⟨A, c, e, e0, ez, eo, fun i hi => ?_⟩
  obtain ⟨a, e1, e2, e3⟩ := f i hi
  exact ⟨a, e1, e2, e3.keep (by rw [add_block]; exact e2) k⟩
theorem Ntes.below {w w' : World} {B : Nat} {v : Value} {l : List Nte} (h : Ntes w B v l) (k : Below B w w') : Ntes w' B v l := h.keep fun _ hp => k.cell hp
theorem Ntes.more {w : World} {B B' : Nat} {v : Value} {l : List Nte} (h : Ntes w B v l) (k : B ≤ B') : Ntes w B' v l := by
  obtain ⟨A, c, e, e0, ez, eo, f⟩ := h
  refine ⟨A, c, e, e0, ez, eo, fun i hi => ?_⟩
  obtain ⟨a, e1, e2, e3⟩ := f i hi
  exact ⟨a, e1, by omega, e3⟩
theorem Ntes.on {w w' : World} {v : Value} {l : List Nte} (h : Ntes w w.heap.size v l) (k : Q w w') : Ntes w' w'.heap.size v l := (h.below k).more k.size
theorem Ntes.nil (w : World) (B : Nat) : Ntes w B (.slice none 0 0) [] := ⟨none, 0, rfl, Nat.le_refl _, fun _ => rfl, by simp, fun k h => absurd h (by simp)⟩
theorem Ntes.okAll {w : World} {B : Nat} {v : Value} {l : List Nte} (h : Ntes w B v l) : ∀ x ∈ l, okW x := by
  obtain ⟨A, c, e, e0, ez, eo, f⟩ := h; exact eo
theorem Ntes.form {w : World} {B : Nat} {v : Value} {l : List Nte} (h : Ntes w B v l) : ∃ A c, v = .slice A l.length c := by
  obtain ⟨A, c, e, -⟩ := h; exact ⟨A, c, e⟩
theorem cells_nte : Try.prog.cellsOf 39 = 4 := by kernel_rfl
theorem trod_nte {H : Type} {enc : TypeId × Value → H} {W : World} {n : Nat} {cs : List Value} {y : DataW H × List MemPlace} (hl : cs.length = 4)
    (hf : DataW.trod enc Try.prog W 0 (fun _ => true) true n 39 cs = some y) :
    ∃ x : Nte, cs = [.int .u64 (x.st : Nat), .string x.n, .string x.val, .bool x.gone] ∧ okW x := by
  obtain ⟨v0, v1, v2, v3, rfl⟩ : ∃ a b c d, cs = [a, b, c, d] := by
    match cs, hl with
    | [a, b, c, d], _ => exact ⟨a, b, c, d, rfl⟩
  obtain ⟨xs, n', _, _, hl0, hlen, hg⟩ := DataW.trod_struct Try.underlying39 hf
  have hlen2 : xs.length = 2 := hlen
  have c0 : Try.prog.cellsOf 35 = 1 := by kernel_rfl
  have c1 : Try.prog.cellsOf 37 = 3 := by kernel_rfl
  have c2 : Try.prog.cellsOf 9 = 1 := by kernel_rfl
  have c3 : Try.prog.cellsOf 4 = 1 := by kernel_rfl
  have g0 := hg 0 _ rfl
  have g1 := hg 1 _ rfl
  rw [List.getElem?_eq_getElem (by omega)] at g0 g1
  simp [c0, c1] at g0 g1
  obtain ⟨y0, y1, y2, m', -, -, k0, k1, k2⟩ := Deep.trod_struct3 Try.underlying37 g1
  simp [c2, c3] at k0 k1 k2
  obtain ⟨s0, e0, -, w0⟩ := DataW.trod_int Try.underlying35 g0
  obtain ⟨s1, e1, -, w1⟩ := DataW.trod_string Try.underlying9 k0
  obtain ⟨s2, e2, -, w2⟩ := DataW.trod_string Try.underlying9 k1
  obtain ⟨s3, e3, -⟩ := DataW.trod_bool Try.underlying4 k2
  simp at e0 e1 e2 e3
  subst e0 e1 e2 e3
  obtain ⟨s0, rfl, w0n⟩ := wfu64 w0
  exact ⟨⟨s0, s1, s2, s3⟩, rfl, w0n, w1, w2, trivial⟩
theorem nte_cellE {H : Type} {enc : TypeId × Value → H} {W : World} {n : Nat} {v : Value} {y : DataW H × List MemPlace}
    (hf : DataW.trod enc Try.prog W 0 (fun _ => true) true n 22 [v] = some y) : ∃ l : List Nte, Ntes W W.heap.size v l ∧ l.length ≤ maxLen := by
  rcases Deep.open_slice Try.underlying22 hf with ⟨hcs, hx⟩ | ⟨a, len', cap', m, n, D, Pl, hcs, _, hl, hm, hmm, hx, hel⟩
  · simp at hcs
    subst hcs
    exact ⟨[], Ntes.nil _ _, by simp⟩
  · simp at hcs
    subst hcs
    have each : ∀ i, i < len' → ∃ x : Nte, okW x ∧ AtW W (a.add (i * 4)) x := by
      intro i hi
      obtain ⟨cs', h1, h2⟩ := hel i (by rw [hmm]; simp; omega)
      rw [cells_nte] at h1
      obtain ⟨-, hlen4, hcell⟩ := World.cells?_some h1
      obtain ⟨x, rfl, ok⟩ := trod_nte hlen4 h2
      refine ⟨x, ok, ?_, ?_, ?_, ?_⟩
      · exact hcell 0 (by omega)
      · exact (congrArg W.cell? (add_pos _ (by omega : 0 < 1)).symm).trans (hcell 1 (by omega))
      · exact (congrArg W.cell? (add_pos _ (by omega : 0 < 2)).symm).trans (hcell 2 (by omega))
      · exact (congrArg W.cell? (add_pos _ (by omega : 0 < 3)).symm).trans (hcell 3 (by omega))
    obtain ⟨l, hlen, hp⟩ := list_of len' each
    refine ⟨l, ⟨some a, cap', by rw [hlen], by omega, (by simp), ?_, fun k hk => ⟨a, rfl, ?_, (hp k hk).2⟩⟩, by omega⟩
    · intro x hx
      obtain ⟨k, hk, rfl⟩ := List.getElem_of_mem hx
      exact (hp k hk).1
    · have := World.block_lt_of_cell? W _ (hp k hk).2.1
      rw [add_block] at this; exact this
theorem open_ntes {H : Type} {enc : TypeId × Value → H} {W : World} {b : Nat} {v : Value} {d : DataW H} {p : List MemPlace} (hv : Value.okWide Try.prog W .any b 22 v)
    (h : DataW.Trod enc Try.prog W 0 (fun _ => true) true 22 v d p) : ∃ l : List Nte, Ntes W W.heap.size v l ∧ l.length ≤ maxLen := by
  obtain ⟨a0, len, cap, rfl⟩ := okWide_slice Try.underlying22 hv
  obtain ⟨fuel, hf⟩ := h
  exact nte_cellE (by simpa [Value.cells] using hf)
theorem info_nte : (Try.prog.info? 39).map (fun i => (i.zero, i.size, i.bytes)) = some (some (.agg #[.int .u64 0, .string ⟨#[]⟩, .string ⟨#[]⟩, .bool false]), 4, 48) := by kernel_rfl
/-- v is a row of the call's own, from block base on, of these. -/
def OwnW (base : Nat) (w : World) (v : Value) (l : List Nte) : Prop := w.ownsRow base 39 4 v l.length (l.flatMap ncl)
theorem OwnW.nil (base : Nat) (w : World) : OwnW base w (.slice none 0 0) [] := World.ownsRow_nil w _ _ _
theorem flat_ncl (l : List Nte) : (l.flatMap ncl).length = l.length * 4 := by
  induction l with
  | nil => rfl
  | cons x r ih => rw [List.flatMap_cons, List.length_append, ih, List.length_cons, show (ncl x).length = 4 by rfl]; omega
theorem flat_atnte (l : List Nte) (k : Nat) (h : k < l.length) {j : Nat} (hj : j < 4) : (l.flatMap ncl)[k * 4 + j]? = (ncl l[k])[j]? := by
  induction l generalizing k with
  | nil => simp at h
  | cons x r ih =>
    rw [List.flatMap_cons]
    cases k with
    | zero => rw [List.getElem?_append_left (by rw [show (ncl x).length = 4 by rfl]; omega)]; simp
    | succ k =>
      rw [List.getElem?_append_right (by rw [show (ncl x).length = 4 by rfl]; omega), show (k + 1) * 4 + j - (ncl x).length = k * 4 + j by rw [show (ncl x).length = 4 by rfl]; omega, ih k (by simpa using h)]
      rfl
theorem OwnW.read {base : Nat} {w : World} {v : Value} {l : List Nte} (h : OwnW base w v l) (hl : ∀ x ∈ l, okW x) : Ntes w w.heap.size v l := by
  rcases h.2 with ⟨rfl, h0⟩ | ⟨g, cap, cur, rfl, hb, hg, h1, h2, h3, h4⟩
  · rw [List.length_eq_zero_iff.1 h0]; exact Ntes.nil _ _
  · refine ⟨_, _, rfl, h1, (by simp), hl, fun k hk => ⟨⟨g, 0, none⟩, rfl, lt_of_block hg, ?_⟩⟩
    have hc : ∀ j, j < 4 → w.cell? ((⟨g, 0, none⟩ : Addr).add (k * 4 + j)) = (ncl l[k])[j]? := by
      intro j hj
      have := flat_atnte l k hk hj
      obtain ⟨u, hu⟩ : ∃ u, (ncl l[k])[j]? = some u := ⟨_, List.getElem?_eq_getElem (by rw [show (ncl l[k]).length = 4 by rfl]; exact hj)⟩
      rw [hu] at this ⊢
      exact World.ownsRow.cells h (g := g) rfl _ _ this
    have ha : ∀ j, 0 < j → (⟨g, 0, none⟩ : Addr).add (k * 4 + j) = ⟨((⟨g, 0, none⟩ : Addr).add (k * 4)).block, ((⟨g, 0, none⟩ : Addr).add (k * 4)).off + j, none⟩ := by
      intro j hj
      rw [add_pos _ (by omega), add_block]
      unfold Addr.add
      split
      · rename_i h0; simp [h0]
      · simp [Nat.add_assoc]
    refine ⟨hc 0 (by omega), ?_, ?_, ?_⟩
    · rw [← ha 1 (by omega)]; exact hc 1 (by omega)
    · rw [← ha 2 (by omega)]; exact hc 2 (by omega)
    · rw [← ha 3 (by omega)]; exact hc 3 (by omega)
theorem OwnW.on {base : Nat} {w w' : World} {v : Value} {l : List Nte} (h : OwnW base w v l) (q : Q w w') : OwnW base w' v l := by
  rcases h.2 with ⟨rfl, h0⟩ | ⟨g, cap, cur, rfl, hb, hg, h1, h2, h3, h4⟩
  · exact ⟨h.1, .inl ⟨rfl, h0⟩⟩
  · exact ⟨h.1, .inr ⟨g, cap, cur, rfl, hb, (q.block g (lt_of_block hg)).trans hg, h1, h2, h3, h4⟩⟩
theorem OwnW.low {base b2 : Nat} {w : World} {v : Value} {l : List Nte} (h : OwnW base w v l) (k : b2 ≤ base) : OwnW b2 w v l := by
  rcases h.2 with ⟨rfl, h0⟩ | ⟨g, cap, cur, rfl, hb, r⟩
  · exact ⟨h.1, .inl ⟨rfl, h0⟩⟩
  · exact ⟨h.1, .inr ⟨g, cap, cur, rfl, by omega, r⟩⟩
theorem OwnW.form {base : Nat} {w : World} {v : Value} {l : List Nte} (h : OwnW base w v l) : ∃ A c, v = .slice A l.length c := by
  rcases h.2 with ⟨rfl, h0⟩ | ⟨g, cap, cur, rfl, -⟩
  · exact ⟨none, 0, by rw [h0]⟩
  · exact ⟨_, _, rfl⟩
theorem ncl_one (x : Nte) : ∀ u ∈ ncl x, u.oneCell' = true := by
  intro u hu
  simp [ncl] at hu
  rcases hu with rfl | rfl | rfl | rfl <;> rfl
theorem flat_onente (l : List Nte) : ∀ u ∈ l.flatMap ncl, u.oneCell' = true := by
  intro u hu
  obtain ⟨x, -, hx⟩ := List.mem_flatMap.1 hu
  exact ncl_one x u hx
theorem OwnW.onto {base k : Nat} {w2 : World} {v2 : Value} {L M : List Nte} (h1 : w2.ownsRow base 39 4 v2 (L.length + k) (L.flatMap ncl ++ M.flatMap ncl)) (hk : k = M.length) : OwnW base w2 v2 (L ++ M) := by
  subst hk
  unfold OwnW
  rw [List.flatMap_append, List.length_append]
  exact h1
theorem OwnW.grown {base : Nat} {w0 wr w2 : World} {v : Value} {L : List Nte} (hown : OwnW base wr v L) (hbel : Below base w0 wr) (hb : base ≤ wr.heap.size) (h2 : wr.grownBy w2 v.ownBlock) : Below base w0 w2 :=
  hbel.grown h2 hb (fun k hk => (World.ownsRow.lt hown k hk).1)
theorem cells_onente (w : World) (x : Nte) (t : TypeId) : ∀ j u, (ncl x)[j]? = some u → (w.alloc (.cells (ncl x).toArray t)).cell? ((⟨w.heap.size, 0, none⟩ : Addr).add j) = some u := by
  intro j u hj
  obtain ⟨hj2, rfl⟩ := List.getElem?_eq_some_iff.1 hj
  match j, hj2 with
  | 0, _ => simp [Addr.add, ncl]
  | 1, _ => simp [Addr.add, ncl]
  | 2, _ => simp [Addr.add, ncl]
  | 3, _ => simp [Addr.add, ncl]
theorem Ntes.flat {w : World} {B : Nat} {a : Addr} {n c : Nat} {l : List Nte} (h : Ntes w B (.slice (some a) n c) l) : ∀ j u, (l.flatMap ncl)[j]? = some u → w.cell? (a.add j) = some u := by
  obtain ⟨A, c', e, -, -, -, f⟩ := h
  injection e with e1 e2 e3
  intro j u hu
  obtain ⟨hj, -⟩ := List.getElem?_eq_some_iff.1 hu
  rw [flat_ncl] at hj
  have hk : j / 4 < l.length := by omega
  obtain ⟨a', ea, -, hat⟩ := f (j / 4) hk
  rw [← e1] at ea
  injection ea with ea
  subst ea
  have hj2 : j = j / 4 * 4 + j % 4 := by omega
  rw [hj2, flat_atnte l _ hk (by omega)] at hu
  have hadd : ∀ r, 0 < r → a.add (j / 4 * 4 + r) = ⟨(a.add (j / 4 * 4)).block, (a.add (j / 4 * 4)).off + r, none⟩ := by
    intro r hr
    rw [add_pos _ (by omega), add_block]
    unfold Addr.add
    split
    · simp [*]
    · simp [Nat.add_assoc]
  obtain ⟨c0, c1, c2, c3⟩ := hat
  rw [hj2]
  have hr : j % 4 < 4 := by omega
  match hm : j % 4, hr with
  | 0, _ => rw [hm] at hu; simp [ncl] at hu; rw [Nat.add_zero, c0, ← hu]
  | 1, _ => rw [hm] at hu; simp [ncl] at hu; rw [hadd 1 (by omega), c1, ← hu]
  | 2, _ => rw [hm] at hu; simp [ncl] at hu; rw [hadd 2 (by omega), c2, ← hu]
  | 3, _ => rw [hm] at hu; simp [ncl] at hu; rw [hadd 3 (by omega), c3, ← hu]
theorem run_append_nte (w : World) (base B : Nat) (t ty : TypeId) (htt : Try.prog.underlying t = some (.slice 39)) (v : Value) (l m : List Nte) {A : Option Addr} {n c : Nat} (h : OwnW base w v l)
    (g : Ntes w B (.slice A n c) m) (hb : base ≤ w.heap.size) (hl : l.length + m.length ≤ 4000000) :
    ∃ v' w', (Builtin.append_ #[t, t] ty #[v, .slice A n c]).run Try.prog w = .ok v' w' ∧ OwnW base w' v' (l ++ m) ∧ w.grownBy w' v.ownBlock := by
  obtain ⟨i0, hi0, hz0, hz1, hz2⟩ := info_parts info_nte
  have hn : n = m.length := by obtain ⟨A', c', e, -⟩ := g; injection e
  subst hn
  cases A with
  | none =>
    have hm : m = [] := by
      obtain ⟨A', c', e, e0, ez, -, -⟩ := g
      injection e with e1 e2 e3
      have := ez e1.symm
      exact List.length_eq_zero_iff.1 (by omega)
    subst hm
    have hc : c = 0 := by
      obtain ⟨A', c', e, e0, ez, -, -⟩ := g
      injection e with e1 e2 e3
      rw [e3]; exact ez e1.symm
    subst hc
    exact ⟨v, w, run_append_owned_none (P := Try.prog) (w := w) base t ty 39 i0 4 htt hi0 v _ _ h, by simpa using h, World.grownBy.refl w _⟩
  | some a =>
    obtain ⟨v', w', h1, h2, h3, -⟩ := run_append_own (P := Try.prog) w base t ty 39 i0 (.agg #[.int .u64 0, .string ⟨#[]⟩, .string ⟨#[]⟩, .bool false]) 4 48 htt hi0 hz0 hz1 hz2 rfl (by decide) v l.length (l.flatMap ncl) h a m.length c (m.flatMap ncl) (flat_ncl m) g.flat (flat_onente m) (by unfold maxLen; omega) (by omega) hb
    exact ⟨v', w', h1, OwnW.onto (M := m) h2 rfl, h3⟩
theorem wpList_append_nte {ops : Array Oper} {rest : List Oper} {o : Oper} {a : Act} {Q : Exit → Act → World → Prop} (w : World) (hgd : o.guard = none) (s x : Operand) (t : TypeId)
    (htt : Try.prog.underlying t = some (.slice 39)) (ho : o.op = .call { callee := .builtin .append, args := #[s, x], argTypes := #[t, t] })
    (base B : Nat) (v : Value) (l m : List Nte) {A : Option Addr} {n c : Nat} (hs : a.eval s = v) (hx : a.eval x = .slice A n c) (h : OwnW base w v l)
    (g : Ntes w B (.slice A n c) m) (hb : base ≤ w.heap.size) (hl : l.length + m.length ≤ 4000000)
    (k : ∀ v' w', OwnW base w' v' (l ++ m) → w.grownBy w' v.ownBlock → wpList Try.prog ops Q rest (a.put o.dst v') w') : wpList Try.prog ops Q (o :: rest) a w := by
  refine wpList_plain hgd fun K hK => ?_
  obtain ⟨v', w', h1, h2, h3⟩ := run_append_nte w base B t o.type htt v l m h g hb hl
  unfold Oper.wp execOp
  simp only [ho, resolve, invoke, builtin, Sem.run_bind, Sem.run_pure, Result.andThen_ok, List.map_toArray, List.map_cons, List.map_nil, hs, hx, h1]
  exact hK _ _ (k v' w' h2 h3)
/-- One more behind a row of the call's own, as a walk meets it ('append(v, x)': x in a box of its own). -/
theorem wpList_snoc_nte {ops : Array Oper} {rest : List Oper} {o : Oper} {a : Act} {Q : Exit → Act → World → Prop} (w : World) (hgd : o.guard = none) (s x : Operand) (t t2 : TypeId)
    (htt : Try.prog.underlying t = some (.slice 39)) (ho : o.op = .call { callee := .builtin .append, args := #[s, x], argTypes := #[t, t] })
    (base g : Nat) (v : Value) (l : List Nte) (y : Nte) {c : Nat} (hs : a.eval s = v) (hx : a.eval x = .slice (some ⟨g, 0, none⟩) 1 c) (hgg : ∀ j u, (ncl y)[j]? = some u → w.cell? ((⟨g, 0, none⟩ : Addr).add j) = some u) (h : OwnW base w v l)
    (hb : base ≤ w.heap.size) (hl : l.length ≤ 4000000)
    (k : ∀ v' w', OwnW base w' v' (l ++ [y]) → w.grownBy w' v.ownBlock → wpList Try.prog ops Q rest (a.put o.dst v') w') : wpList Try.prog ops Q (o :: rest) a w := by
  refine wpList_plain hgd fun K hK => ?_
  obtain ⟨i0, hi0, hz0, hz1, hz2⟩ := info_parts info_nte
  obtain ⟨v', w', h1, h2, h3, -⟩ := run_append_own (P := Try.prog) w base t o.type 39 i0 (.agg #[.int .u64 0, .string ⟨#[]⟩, .string ⟨#[]⟩, .bool false]) 4 48 htt hi0 hz0 hz1 hz2 rfl (by decide) v l.length (l.flatMap ncl) h ⟨g, 0, none⟩ 1 c (ncl y) rfl hgg (ncl_one y) (by unfold maxLen; omega) (by omega) hb
  unfold Oper.wp execOp
  simp only [ho, resolve, invoke, builtin, Sem.run_bind, Sem.run_pure, Result.andThen_ok, List.map_toArray, List.map_cons, List.map_nil, hs, hx, h1]
  exact hK _ _ (k v' w' (OwnW.onto (M := [y]) (by simpa using h2) rfl) h3)
theorem wp_snoc_nte {o : Oper} {a : Act} {K : Act → World → Prop} {Q : Exit → Act → World → Prop} (w : World) (s x : Operand) (t : TypeId)
    (htt : Try.prog.underlying t = some (.slice 39)) (ho : o.op = .call { callee := .builtin .append, args := #[s, x], argTypes := #[t, t] })
    (base g : Nat) (v : Value) (l : List Nte) (y : Nte) {c : Nat} (hs : a.eval s = v) (hx : a.eval x = .slice (some ⟨g, 0, none⟩) 1 c) (hgg : ∀ j u, (ncl y)[j]? = some u → w.cell? ((⟨g, 0, none⟩ : Addr).add j) = some u) (h : OwnW base w v l)
    (hb : base ≤ w.heap.size) (hl : l.length ≤ 4000000)
    (k : ∀ v' w', OwnW base w' v' (l ++ [y]) → w.grownBy w' v.ownBlock → K (a.put o.dst v') w') : Oper.wp Try.prog o a w K Q := by
  obtain ⟨i0, hi0, hz0, hz1, hz2⟩ := info_parts info_nte
  obtain ⟨v', w', h1, h2, h3, -⟩ := run_append_own (P := Try.prog) w base t o.type 39 i0 (.agg #[.int .u64 0, .string ⟨#[]⟩, .string ⟨#[]⟩, .bool false]) 4 48 htt hi0 hz0 hz1 hz2 rfl (by decide) v l.length (l.flatMap ncl) h ⟨g, 0, none⟩ 1 c (ncl y) rfl hgg (ncl_one y) (by unfold maxLen; omega) (by omega) hb
  unfold Oper.wp execOp
  simp only [ho, resolve, invoke, builtin, Sem.run_bind, Sem.run_pure, Result.andThen_ok, List.map_toArray, List.map_cons, List.map_nil, hs, hx, h1]
  exact k v' w' (OwnW.onto (M := [y]) (by simpa using h2) rfl) h3
end Go.Proofs.Ythlbpjopkaninaa

namespace Go.Proofs.Ythlbpjopkaninaa
set_option maxRecDepth 100000
set_option linter.unusedVariables false
set_option linter.unusedSimpArgs false
instance : DecidableEq Nte := fun x y => if h : x.st = y.st ∧ x.n = y.n ∧ x.val = y.val ∧ x.gone = y.gone then .isTrue (by cases x; cases y; simp only at h; rw [h.1, h.2.1, h.2.2.1, h.2.2.2]) else .isFalse (fun e => h (by rw [e]; exact ⟨rfl, rfl, rfl, rfl⟩))
/-- One more note of those of a name. -/
def bestF (k : ByteArray) (b : Option Nte) (x : Nte) : Option Nte := if x.n = k then (match b with | none => some x | some y => if y.st ≤ x.st then some x else some y) else b
/-- The note of a name that counts. -/
def best (l : List Nte) (k : ByteArray) : Option Nte := l.foldl (bestF k) none
theorem best_snoc (l : List Nte) (x : Nte) (k : ByteArray) : best (l ++ [x]) k = bestF k (best l k) x := by unfold best; rw [List.foldl_append]; rfl
theorem best_take (l : List Nte) (i : Nat) (h : i < l.length) (k : ByteArray) : best (l.take (i + 1)) k = bestF k (best (l.take i) k) l[i] := by
  rw [List.take_succ_eq_append_getElem h, best_snoc]
theorem bestF_other {k : ByteArray} {b : Option Nte} {x : Nte} (h : x.n ≠ k) : bestF k b x = b := by unfold bestF; rw [if_neg h]
theorem bestF_none {k : ByteArray} {x : Nte} (h : x.n = k) : bestF k none x = some x := by unfold bestF; rw [if_pos h]
theorem bestF_more {k : ByteArray} {y x : Nte} (h : x.n = k) (g : y.st ≤ x.st) : bestF k (some y) x = some x := by unfold bestF; rw [if_pos h]; simp only [if_pos g]
theorem bestF_less {k : ByteArray} {y x : Nte} (g : ¬ y.st ≤ x.st) : bestF k (some y) x = some y := by
  unfold bestF
  split
  · simp only [if_neg g]
  · rfl
theorem best_some {l : List Nte} {k : ByteArray} {y : Nte} : best l k = some y → y ∈ l ∧ y.n = k ∧ ∀ z ∈ l, z.n = k → z.st ≤ y.st := by
  refine snoc_ind (P := fun l => ∀ y, best l k = some y → y ∈ l ∧ y.n = k ∧ ∀ z ∈ l, z.n = k → z.st ≤ y.st) ?_ ?_ l y
  · intro y h; cases h
  · intro l x ih y h
    rw [best_snoc] at h
    by_cases hx : x.n = k
    · cases hb : best l k with
      | none =>
        rw [hb, bestF_none hx] at h
        injection h with h
        subst h
        refine ⟨by simp, hx, fun z hz hk => ?_⟩
        rcases List.mem_append.1 hz with hz | hz
        · exfalso
          have : ∀ l : List Nte, (∃ z ∈ l, z.n = k) → best l k ≠ none := by
            intro l
            refine snoc_ind (P := fun l => (∃ z ∈ l, z.n = k) → best l k ≠ none) ?_ ?_ l
            · rintro ⟨z, hz, -⟩; cases hz
            · rintro l u ih ⟨z, hz, hk⟩
              rw [best_snoc]
              by_cases hu : u.n = k
              · cases best l k with
                | none => rw [bestF_none hu]; simp
                | some v =>
                  by_cases g : v.st ≤ u.st
                  · rw [bestF_more hu g]; simp
                  · rw [bestF_less g]; simp
              · rw [bestF_other hu]
                rcases List.mem_append.1 hz with hz | hz
                · exact ih ⟨z, hz, hk⟩
                · rw [List.mem_singleton] at hz; rw [hz] at hk; exact absurd hk hu
          exact this l ⟨z, hz, hk⟩ hb
        · rw [List.mem_singleton] at hz; rw [hz]; exact Nat.le_refl _
      | some v =>
        obtain ⟨v1, v2, v3⟩ := ih v hb
        rw [hb] at h
        by_cases g : v.st ≤ x.st
        · rw [bestF_more hx g] at h
          injection h with h
          subst h
          refine ⟨by simp, hx, fun z hz hk => ?_⟩
          rcases List.mem_append.1 hz with hz | hz
          · exact Nat.le_trans (v3 z hz hk) g
          · rw [List.mem_singleton] at hz; rw [hz]; exact Nat.le_refl _
        · rw [bestF_less g] at h
          injection h with h
          subst h
          refine ⟨by simp [v1], v2, fun z hz hk => ?_⟩
          rcases List.mem_append.1 hz with hz | hz
          · exact v3 z hz hk
          · rw [List.mem_singleton] at hz; rw [hz]; omega
    · rw [bestF_other hx] at h
      obtain ⟨v1, v2, v3⟩ := ih y h
      refine ⟨by simp [v1], v2, fun z hz hk => ?_⟩
      rcases List.mem_append.1 hz with hz | hz
      · exact v3 z hz hk
      · rw [List.mem_singleton] at hz; rw [hz] at hk; exact absurd hk hx
theorem best_not {l : List Nte} {k : ByteArray} : best l k = none ↔ ∀ z ∈ l, z.n ≠ k := by
  refine snoc_ind (P := fun l => best l k = none ↔ ∀ z ∈ l, z.n ≠ k) ?_ ?_ l
  · simp [best]
  · intro l x ih
    rw [best_snoc]
    by_cases hx : x.n = k
    · constructor
      · intro h
        cases hb : best l k with
        | none => rw [hb, bestF_none hx] at h; cases h
        | some v =>
          rw [hb] at h
          by_cases g : v.st ≤ x.st
          · rw [bestF_more hx g] at h; cases h
          · rw [bestF_less g] at h; cases h
      · intro h
        exact absurd hx (h x (by simp))
    · rw [bestF_other hx, ih]
      constructor
      · intro h z hz
        rcases List.mem_append.1 hz with hz | hz
        · exact h z hz
        · rw [List.mem_singleton] at hz; rw [hz]; exact hx
      · exact fun h z hz => h z (by simp [hz])
theorem best_ex {l : List Nte} {x : Nte} (h : x ∈ l) : ∃ y, best l x.n = some y := by
  cases hb : best l x.n with
  | none => exact absurd rfl (best_not.1 hb x h)
  | some y => exact ⟨y, rfl⟩
/-- If all of a name are one, that counts. -/
theorem best_only {l : List Nte} {y : Nte} (h : y ∈ l) (k : ∀ x ∈ l, x.n = y.n → x = y) : best l y.n = some y := by
  obtain ⟨z, hz⟩ := best_ex h
  obtain ⟨z1, z2, -⟩ := best_some hz
  rw [hz, k z z1 z2]
/-- One more note among those that count. -/
def stepN (M : List Nte) (x : Nte) : List Nte := match M.find? (fun y => decide (y.n = x.n)) with
  | none => inG Nte.n M x
  | some y => if y.st ≤ x.st then inG Nte.n M x else M
/-- The notes that count. -/
def cntN (l : List Nte) : List Nte := l.foldl stepN []
theorem cntN_snoc (l : List Nte) (x : Nte) : cntN (l ++ [x]) = stepN (cntN l) x := by unfold cntN; rw [List.foldl_append]; rfl
theorem cntN_take (l : List Nte) (i : Nat) (h : i < l.length) : cntN (l.take (i + 1)) = stepN (cntN (l.take i)) l[i] := by
  rw [List.take_succ_eq_append_getElem h, cntN_snoc]
theorem stepN_none {M : List Nte} {x : Nte} (h : ∀ y ∈ M, y.n ≠ x.n) : stepN M x = inG Nte.n M x := by
  have : M.find? (fun y => decide (y.n = x.n)) = none := by rw [List.find?_eq_none]; intro y hy; simpa using h y hy
  unfold stepN; rw [this]
theorem stepN_some {M : List Nte} (hM : Asc Nte.n M) {x y : Nte} (h : y ∈ M) (e : y.n = x.n) : stepN M x = if y.st ≤ x.st then inG Nte.n M x else M := by
  have : M.find? (fun y => decide (y.n = x.n)) = some y := by
    cases hf : M.find? (fun y => decide (y.n = x.n)) with
    | none => rw [List.find?_eq_none] at hf; have := hf y h; simp [e] at this
    | some z =>
      have h1 := List.mem_of_find?_eq_some hf
      have h2 := List.find?_some hf
      simp only [decide_eq_true_eq] at h2
      rw [hM.one h1 h (h2.trans e.symm)]
  unfold stepN; rw [this]
theorem cntN_spec (l : List Nte) : Asc Nte.n (cntN l) ∧ ∀ y, y ∈ cntN l ↔ best l y.n = some y := by
  refine snoc_ind (P := fun l => Asc Nte.n (cntN l) ∧ ∀ y, y ∈ cntN l ↔ best l y.n = some y) ?_ ?_ l
  · exact ⟨Asc.nil, fun y => by simp [cntN, best]⟩
  · rintro l x ⟨ha, hm⟩
    rw [cntN_snoc]
    cases hb : best l x.n with
    | none =>
      have hn : ∀ y ∈ cntN l, y.n ≠ x.n := fun y hy e => by
        have := (hm y).1 hy
        rw [e, hb] at this; cases this
      rw [stepN_none hn]
      refine ⟨inG_asc ha x, fun y => ?_⟩
      rw [inG_mem, best_snoc, hm]
      constructor
      · rintro (rfl | ⟨h, k⟩)
        · rw [hb, bestF_none rfl]
        · rw [bestF_other (fun e => k e.symm)]; exact h
      · intro h
        by_cases e : x.n = y.n
        · rw [← e, hb, bestF_none rfl] at h
          injection h with h
          exact .inl h.symm
        · rw [bestF_other e] at h
          exact .inr ⟨h, fun q => e q.symm⟩
    | some v =>
      obtain ⟨v1, v2, v3⟩ := best_some hb
      have hv : v ∈ cntN l := (hm v).2 (by rw [v2, hb])
      rw [stepN_some ha hv v2]
      by_cases g : v.st ≤ x.st
      · rw [if_pos g]
        refine ⟨inG_asc ha x, fun y => ?_⟩
        rw [inG_mem, best_snoc, hm]
        constructor
        · rintro (rfl | ⟨h, k⟩)
          · rw [hb, bestF_more rfl g]
          · rw [bestF_other (fun e => k e.symm)]; exact h
        · intro h
          by_cases e : x.n = y.n
          · rw [← e, hb, bestF_more rfl g] at h
            injection h with h
            exact .inl h.symm
          · rw [bestF_other e] at h
            exact .inr ⟨h, fun q => e q.symm⟩
      · rw [if_neg g]
        refine ⟨ha, fun y => ?_⟩
        rw [best_snoc, hm]
        by_cases e : x.n = y.n
        · rw [← e, hb, bestF_less g]
        · rw [bestF_other e]
theorem cntN_asc (l : List Nte) : Asc Nte.n (cntN l) := (cntN_spec l).1
theorem cntN_mem {l : List Nte} {y : Nte} : y ∈ cntN l ↔ best l y.n = some y := (cntN_spec l).2 y
theorem cntN_sub {l : List Nte} {y : Nte} (h : y ∈ cntN l) : y ∈ l := (best_some (cntN_mem.1 h)).1
theorem cntN_same {l m : List Nte} (h : ∀ y, best l y.n = some y ↔ best m y.n = some y) : cntN l = cntN m :=
  Asc.same (f := Nte.n) (cntN_asc l) (cntN_asc m) fun y => by rw [cntN_mem, cntN_mem]; exact h y
/-- The document's notes that count, of all, by those looked at. -/
def rcnt (all : List Nte) (m : List Nte) : List Nte := m.foldl (fun o x => match best all x.n with | some y => inG Nte.n o y | none => o) []
theorem rcnt_take (all m : List Nte) (i : Nat) (h : i < m.length) (y : Nte) (hy : best all m[i].n = some y) : rcnt all (m.take (i + 1)) = inG Nte.n (rcnt all (m.take i)) y := by
  unfold rcnt
  rw [List.take_succ_eq_append_getElem h, List.foldl_append]
  simp only [List.foldl_cons, List.foldl_nil, hy]
theorem rcnt_spec (all m : List Nte) : Asc Nte.n (rcnt all m) ∧ ∀ y, y ∈ rcnt all m ↔ best all y.n = some y ∧ ∃ x ∈ m, x.n = y.n := by
  refine snoc_ind (P := fun m => Asc Nte.n (rcnt all m) ∧ ∀ y, y ∈ rcnt all m ↔ best all y.n = some y ∧ ∃ x ∈ m, x.n = y.n) ?_ ?_ m
  · exact ⟨Asc.nil, fun y => by simp [rcnt]⟩
  · rintro m x ⟨ha, hm⟩
    have e : rcnt all (m ++ [x]) = match best all x.n with | some y => inG Nte.n (rcnt all m) y | none => rcnt all m := by
      unfold rcnt; rw [List.foldl_append]; rfl
    rw [e]
    cases hb : best all x.n with
    | none =>
      refine ⟨ha, fun y => ?_⟩
      simp only
      rw [hm]
      constructor
      · rintro ⟨h, z, hz, k⟩; exact ⟨h, z, by simp [hz], k⟩
      · rintro ⟨h, z, hz, k⟩
        rcases List.mem_append.1 hz with hz | hz
        · exact ⟨h, z, hz, k⟩
        · rw [List.mem_singleton] at hz; rw [hz] at k; rw [← k, hb] at h; cases h
    | some v =>
      obtain ⟨-, v2, -⟩ := best_some hb
      refine ⟨inG_asc ha v, fun y => ?_⟩
      simp only
      rw [inG_mem, hm]
      constructor
      · rintro (rfl | ⟨⟨h, z, hz, k⟩, -⟩)
        · exact ⟨by rw [v2]; exact hb, x, by simp, v2.symm⟩
        · exact ⟨h, z, by simp [hz], k⟩
      · rintro ⟨h, z, hz, k⟩
        rcases List.mem_append.1 hz with hz | hz
        · by_cases q : y.n = v.n
          · rw [q, v2, hb] at h; injection h with h; exact .inl h.symm
          · exact .inr ⟨⟨h, z, hz, k⟩, q⟩
        · rw [List.mem_singleton] at hz
          rw [hz] at k
          rw [← k, hb] at h; injection h with h; exact .inl h.symm
theorem rcnt_all (l : List Nte) : rcnt l l = cntN l :=
  Asc.same (f := Nte.n) (rcnt_spec l l).1 (cntN_asc l) fun y => by
    rw [(rcnt_spec l l).2, cntN_mem]
    exact ⟨fun h => h.1, fun h => ⟨h, y, (best_some h).1, rfl⟩⟩
/-- No two unlike ones of a name have one stamp. -/
def oneN (l : List Nte) : Prop := ∀ x ∈ l, ∀ y ∈ l, x.n = y.n → x.st = y.st → x = y
theorem best_iff {l : List Nte} (h : oneN l) {k : ByteArray} {y : Nte} : best l k = some y ↔ y ∈ l ∧ y.n = k ∧ ∀ z ∈ l, z.n = k → z.st ≤ y.st := by
  constructor
  · exact best_some
  · rintro ⟨h1, h2, h3⟩
    obtain ⟨z, hz⟩ := best_ex h1
    obtain ⟨z1, z2, z3⟩ := best_some hz
    rw [← h2, hz]
    have e1 := h3 z z1 (z2.trans h2)
    have e2 := z3 y h1 rfl
    rw [h z z1 y h1 z2 (by omega)]
theorem oneN_of {l m : List Nte} (h : oneN l) (k : ∀ x ∈ m, x ∈ l) : oneN m := fun x hx y hy => h x (k x hx) y (k y hy)
theorem cntN_set {l m : List Nte} (h : oneN l) (k : ∀ x, x ∈ l ↔ x ∈ m) : cntN l = cntN m :=
  cntN_same fun y => by
    rw [best_iff h, best_iff (oneN_of h fun x hx => (k x).2 hx)]
    simp only [k]
theorem cntN_parts {a b : List Nte} (h : oneN (a ++ b)) : cntN (cntN b ++ cntN a) = cntN (a ++ b) := by
  have hs : ∀ x ∈ cntN b ++ cntN a, x ∈ a ++ b := fun x hx => by
    rcases List.mem_append.1 hx with hx | hx
    · exact List.mem_append.2 (.inr (cntN_sub hx))
    · exact List.mem_append.2 (.inl (cntN_sub hx))
  have top : ∀ z ∈ a ++ b, ∃ u ∈ cntN b ++ cntN a, u.n = z.n ∧ z.st ≤ u.st := fun z hz => by
    rcases List.mem_append.1 hz with hz | hz
    · obtain ⟨u, hu⟩ := best_ex hz
      obtain ⟨u1, u2, u3⟩ := best_some hu
      exact ⟨u, List.mem_append.2 (.inr (cntN_mem.2 (by rw [u2]; exact hu))), u2, u3 z hz rfl⟩
    · obtain ⟨u, hu⟩ := best_ex hz
      obtain ⟨u1, u2, u3⟩ := best_some hu
      exact ⟨u, List.mem_append.2 (.inl (cntN_mem.2 (by rw [u2]; exact hu))), u2, u3 z hz rfl⟩
  refine cntN_same fun y => ?_
  rw [best_iff (oneN_of h hs), best_iff h]
  constructor
  · rintro ⟨h1, -, h3⟩
    refine ⟨hs y h1, rfl, fun z hz k => ?_⟩
    obtain ⟨u, u1, u2, u3⟩ := top z hz
    exact Nat.le_trans u3 (h3 u u1 (u2.trans k))
  · rintro ⟨h1, -, h3⟩
    obtain ⟨u, u1, u2, u3⟩ := top y h1
    have e := h3 u (hs u u1) u2
    have : u = y := h u (hs u u1) y h1 u2 (by omega)
    subst this
    exact ⟨u1, rfl, fun z hz k => h3 z (hs z hz) k⟩
/-- What is live of notes, of all. -/
def liveN (all l : List Nte) : List Nte := l.filter fun x => decide (best all x.n = some x)
theorem liveN_mem {all l : List Nte} {x : Nte} : x ∈ liveN all l ↔ x ∈ l ∧ best all x.n = some x := by unfold liveN; simp
theorem cntN_live (l : List Nte) : cntN (liveN l l) = cntN l := by
  have h1 : ∀ y, best l y.n = some y → best (liveN l l) y.n = some y := fun y h =>
    best_only (liveN_mem.2 ⟨(best_some h).1, h⟩) fun x hx e => by
      have := (liveN_mem.1 hx).2
      rw [e, h] at this; injection this with this; exact this.symm
  refine cntN_same fun y => ⟨fun h => ?_, h1 y⟩
  exact (liveN_mem.1 (best_some h).1).2
theorem liveN_cnt (l : List Nte) : liveN l (cntN l) = cntN l := by
  unfold liveN
  exact List.filter_eq_self.2 fun y hy => by simpa using cntN_mem.1 hy
theorem apart_len {α : Type} {A B : List α} (h : A.Pairwise (fun x y => x ≠ y)) (k : ∀ x ∈ A, x ∈ B) : A.length ≤ B.length := by
  induction A generalizing B with
  | nil => exact Nat.zero_le _
  | cons x r ih =>
    obtain ⟨h1, h2⟩ := List.pairwise_cons.1 h
    obtain ⟨s, t, rfl⟩ := List.append_of_mem (k x (by simp))
    have := ih h2 (B := s ++ t) fun y hy => by
      have h3 := k y (List.mem_cons_of_mem _ hy)
      simp only [List.mem_append, List.mem_cons] at h3 ⊢
      rcases h3 with h3 | rfl | h3
      · exact .inl h3
      · exact absurd rfl (h1 _ hy)
      · exact .inr h3
    rw [List.length_append] at this ⊢
    simp only [List.length_cons]
    omega
theorem liveN_len (l : List Nte) : (cntN l).length ≤ (liveN l l).length :=
  apart_len (List.Pairwise.imp (fun {a b} h e => ltB_neZ h (congrArg Nte.n e)) (cntN_asc l)) fun x hx => liveN_mem.2 ⟨cntN_sub hx, cntN_mem.1 hx⟩
/-- The item of a note, or none, if it is Gone. -/
def chgN (y : Nte) : Chg := ⟨y.n, y.val, y.gone⟩
/-- The items that there are by notes. -/
def itN (l : List Nte) : List Itm := ((cntN l).filter fun y => !y.gone).map fun y => ⟨y.n, y.val⟩
theorem itN_asc (l : List Nte) : Asc Itm.n (itN l) := by
  unfold itN Asc
  rw [List.pairwise_map]
  exact Asc.filter (cntN_asc l) _
theorem itN_mem {l : List Nte} {z : Itm} : z ∈ itN l ↔ ∃ y ∈ cntN l, y.gone = false ∧ z = ⟨y.n, y.val⟩ := by
  unfold itN
  rw [List.mem_map]
  constructor
  · rintro ⟨y, hy, rfl⟩
    obtain ⟨h1, h2⟩ := List.mem_filter.1 hy
    exact ⟨y, h1, by simpa using h2, rfl⟩
  · rintro ⟨y, h1, h2, rfl⟩
    exact ⟨y, List.mem_filter.2 ⟨h1, by simp [h2]⟩, rfl⟩
/-- With of no items, and the changes of the notes that count. -/
theorem itN_with (l : List Nte) : withI [] ((cntN l).map chgN) = itN l := by
  refine Asc.same (f := Itm.n) (withI_asc _ _) (itN_asc l) fun z => ?_
  have hc : ((cntN l).map chgN).Pairwise (fun x y => x.n ≠ y.n) := by
    rw [List.pairwise_map]
    exact List.Pairwise.imp (fun h => ltB_neZ h) (cntN_asc l)
  show z ∈ ((cntN l).map chgN).foldl stepC (ofI []) ↔ _
  rw [foldC_mem hc (ofI_asc []), itN_mem]
  constructor
  · rintro (⟨x, hx, g, rfl⟩ | ⟨h, -⟩)
    · obtain ⟨y, hy, rfl⟩ := List.mem_map.1 hx
      exact ⟨y, hy, g, rfl⟩
    · cases h
  · rintro ⟨y, hy, g, rfl⟩
    exact .inl ⟨chgN y, List.mem_map.2 ⟨y, hy, rfl⟩, g, rfl⟩
theorem itN_live (l : List Nte) : itN (liveN l l) = itN l := by unfold itN; rw [cntN_live]
/-- The greatest stamp. -/
def lastN (l : List Nte) : Nat := l.foldl (fun m x => max m x.st) 0
theorem lastN_snoc (l : List Nte) (x : Nte) : lastN (l ++ [x]) = max (lastN l) x.st := by unfold lastN; rw [List.foldl_append]; rfl
theorem lastN_take (l : List Nte) (i : Nat) (h : i < l.length) : lastN (l.take (i + 1)) = max (lastN (l.take i)) l[i].st := by
  rw [List.take_succ_eq_append_getElem h, lastN_snoc]
theorem lastN_le {l : List Nte} : ∀ x ∈ l, x.st ≤ lastN l := by
  refine snoc_ind (P := fun l => ∀ x ∈ l, x.st ≤ lastN l) (by simp) ?_ l
  intro l x ih y hy
  rw [lastN_snoc]
  rcases List.mem_append.1 hy with hy | hy
  · have := ih y hy; omega
  · rw [List.mem_singleton] at hy; rw [hy]; omega
theorem lastN_in (l : List Nte) : l = [] ∨ ∃ x ∈ l, x.st = lastN l := by
  refine snoc_ind (P := fun l => l = [] ∨ ∃ x ∈ l, x.st = lastN l) (.inl rfl) ?_ l
  intro l x ih
  right
  rw [lastN_snoc]
  rcases ih with rfl | ⟨y, hy, e⟩
  · exact ⟨x, by simp, by simp [lastN]⟩
  · by_cases g : lastN l ≤ x.st
    · exact ⟨x, by simp, by omega⟩
    · exact ⟨y, by simp [hy], by omega⟩
/-- One of those that count has the greatest stamp. -/
theorem lastN_cnt (l : List Nte) : l = [] ∨ ∃ x ∈ cntN l, x.st = lastN l := by
  rcases lastN_in l with h | ⟨x, hx, e⟩
  · exact .inl h
  · obtain ⟨y, hy⟩ := best_ex hx
    obtain ⟨y1, y2, y3⟩ := best_some hy
    refine .inr ⟨y, cntN_mem.2 (by rw [y2]; exact hy), ?_⟩
    have h1 := y3 x hx rfl
    have h2 := lastN_le y y1
    omega
/-- One note stamped later is one change done. -/
theorem itN_step {l : List Nte} {s : Nat} (h : ∀ x ∈ l, x.st ≤ s) (c : Chg) : itN (l ++ [⟨s, c.n, c.val, c.gone⟩]) = stepC (itN l) c := by
  refine Asc.same (f := Itm.n) (itN_asc _) (stepC_asc (itN_asc l) c) fun z => ?_
  rw [stepC_mem (itN_asc l), itN_mem, itN_mem]
  have key : ∀ y : Nte, y ∈ cntN (l ++ [⟨s, c.n, c.val, c.gone⟩]) ↔ y = ⟨s, c.n, c.val, c.gone⟩ ∨ (y ∈ cntN l ∧ y.n ≠ c.n) := by
    intro y
    rw [cntN_mem, best_snoc, cntN_mem]
    by_cases e : c.n = y.n
    · cases hb : best l y.n with
      | none =>
        rw [bestF_none e]
        constructor
        · intro h; injection h with h; exact .inl h.symm
        · rintro (h | ⟨h, -⟩)
          · rw [h]
          · cases h
      | some v =>
        obtain ⟨v1, -, -⟩ := best_some hb
        rw [bestF_more e (h v v1)]
        constructor
        · intro h; injection h with h; exact .inl h.symm
        · rintro (h | ⟨-, k⟩)
          · rw [h]
          · exact absurd e.symm k
    · rw [bestF_other e]
      constructor
      · exact fun h => .inr ⟨h, fun q => e q.symm⟩
      · rintro (h | ⟨h, -⟩)
        · rw [h] at e; exact absurd rfl e
        · exact h
  constructor
  · rintro ⟨y, hy, g, rfl⟩
    rcases (key y).1 hy with rfl | ⟨h1, h2⟩
    · exact .inl ⟨g, rfl⟩
    · exact .inr ⟨⟨y, h1, g, rfl⟩, h2⟩
  · rintro (⟨g, rfl⟩ | ⟨⟨y, h1, g, rfl⟩, h2⟩)
    · exact ⟨_, (key _).2 (.inl rfl), g, rfl⟩
    · exact ⟨y, (key y).2 (.inr ⟨h1, h2⟩), g, rfl⟩
/-- Changes by a stamp. -/
def stampN (c : List Chg) (s : Nat) : List Nte := c.map fun x => ⟨s, x.n, x.val, x.gone⟩
theorem itN_stamped {l : List Nte} {s : Nat} (h : ∀ x ∈ l, x.st ≤ s) (c : List Chg) : itN (l ++ stampN c s) = withI (itN l) c := by
  refine snoc_ind (P := fun c => itN (l ++ stampN c s) = withI (itN l) c) ?_ ?_ c
  · show itN (l ++ []) = ofI (itN l)
    rw [List.append_nil, ofI_self (itN_asc l)]
  · intro c x ih
    have e : stampN (c ++ [x]) s = stampN c s ++ [⟨s, x.n, x.val, x.gone⟩] := by simp [stampN]
    rw [e, ← List.append_assoc, itN_step (fun y hy => ?_), ih]
    · unfold withI; rw [List.foldl_append]; rfl
    · rcases List.mem_append.1 hy with hy | hy
      · exact h y hy
      · obtain ⟨u, -, rfl⟩ := List.mem_map.1 hy; exact Nat.le_refl _
theorem itN_gone {l : List Nte} (h : ∀ x ∈ l, x.gone = true) : itN l = [] := by
  cases hi : itN l with
  | nil => rfl
  | cons z r =>
    obtain ⟨y, hy, g, -⟩ := itN_mem.1 (by rw [hi]; simp : z ∈ itN l)
    rw [h y (cntN_sub hy)] at g; cases g
/-- What is stamped later hides its name. -/
theorem live_later {l : List Nte} {n x : Nte} (h : ∀ y ∈ l, y.st < n.st) (hx : x ∈ liveN (l ++ [n]) l) : x.n ≠ n.n := by
  intro e
  obtain ⟨h1, h2⟩ := liveN_mem.1 hx
  have := (best_some h2).2.2 n (by simp) e.symm
  have := h x h1
  omega
end Go.Proofs.Ythlbpjopkaninaa

