/-
  How losses, tears and looks that come in are opened. How looks that come in are opened. Contract of the document's with: a device in which a zone is another one. The octets of a torn block, as the document's Crash lays them.
-/
import Derived.Test.YteoondmakdghhaaRj
import Derived.Test.YteoondmakdghhaaRi
import Derived.Test.YteoondmakdghhaaRe
import Derived.Lib.ConvBytes
import Derived.Lib.SmallJoins
namespace Go.Proofs.Yteoondmakdghhaa
set_option maxRecDepth 100000
open Go.ChangeShapes Go.WideShapes Go.ChangeAt Go.RowKit
set_option linter.unusedVariables false
set_option linter.unusedSimpArgs false
set_option maxRecDepth 100000
theorem ints_cell {H : Type} {enc : TypeId × Value → H} {W : World} {n : Nat} {v : Value} {y : DataW H × List MemPlace}
    (hf : DataW.trod enc Try.prog W 0 (fun _ => true) true n 25 [v] = some y) : ∃ l : List Int, Ints W W.heap.size v l ∧ l.length ≤ maxLen := by
  rcases Deep.open_slice Try.underlying25 hf with ⟨hcs, hx⟩ | ⟨a, len', cap', m, n, D, Pl, hcs, _, hl, hm, hmm, hx, hel⟩
  · simp at hcs
    subst hcs
    exact ⟨[], Ints.nil _ _, by simp⟩
  · simp at hcs
    subst hcs
    have c0 : Try.prog.cellsOf 3 = 1 := by kernel_rfl
    have each : ∀ i, i < len' → ∃ x : Int, okI64 x ∧ W.cell? (a.add i) = some (.int .i64 x) := by
      intro i hi
      obtain ⟨cs', h1, h2⟩ := hel i (by rw [hmm]; simp; omega)
      rw [c0] at h1
      obtain ⟨-, hlen1, hcell⟩ := World.cells?_some h1
      obtain ⟨s, e, -, ws⟩ := DataW.trod_int Try.underlying3 h2
      subst e
      refine ⟨s, wf64 ws, ?_⟩
      have h0 : (a.add i).add 0 = a.add i := by simp [Addr.add]
      have := hcell 0 (by omega)
      rw [Nat.mul_one, h0] at this
      exact this
    obtain ⟨l, hlen, hp⟩ := list_of len' each
    refine ⟨l, ⟨some a, cap', by rw [hlen], fun x hx => ?_, fun k hk => ⟨a, rfl, ?_, (hp k hk).2⟩⟩, by omega⟩
    · obtain ⟨k, hk, rfl⟩ := List.getElem_of_mem hx
      exact (hp k hk).1
    · have := World.block_lt_of_cell? W _ (hp k hk).2
      rw [add_block] at this; exact this
def lsV (l : Ls) (u : Value) : Value := .agg #[u, .int .i64 l.zone, .int .i64 l.cut]
def okL (l : Ls) : Prop := l.keep.length ≤ maxLen ∧ okI64 l.zone ∧ okI64 l.cut
theorem trod_ls {H : Type} {enc : TypeId × Value → H} {W : World} {n : Nat} {cs : List Value} {y : DataW H × List MemPlace} (hl : cs.length = 3)
    (hf : DataW.trod enc Try.prog W 0 (fun _ => true) true n 27 cs = some y) :
    ∃ (l : Ls) (u : Value), cs = [u, .int .i64 l.zone, .int .i64 l.cut] ∧ Ints W W.heap.size u l.keep ∧ okL l := by
  obtain ⟨v0, v1, v2, rfl⟩ : ∃ a b c, cs = [a, b, c] := by
    match cs, hl with
    | [a, b, c], _ => exact ⟨a, b, c, rfl⟩
  obtain ⟨xs, n', _, _, hl0, hlen, hg⟩ := DataW.trod_struct Try.underlying27 hf
  have hlen3 : xs.length = 3 := hlen
  have c0 : Try.prog.cellsOf 25 = 1 := by kernel_rfl
  have c1 : Try.prog.cellsOf 3 = 1 := by kernel_rfl
  have g0 := hg 0 _ rfl
  have g1 := hg 1 _ rfl
  have g2 := hg 2 _ rfl
  rw [List.getElem?_eq_getElem (by omega)] at g0 g1 g2
  simp [c0, c1] at g0 g1 g2
  obtain ⟨b, hb, mb⟩ := ints_cell g0
  obtain ⟨s1, e1, -, w1⟩ := DataW.trod_int Try.underlying3 g1
  obtain ⟨s2, e2, -, w2⟩ := DataW.trod_int Try.underlying3 g2
  simp at e1 e2
  subst e1 e2
  exact ⟨⟨b, s1, s2⟩, v0, rfl, hb, mb, wf64 w1, wf64 w2⟩
/-- A tear, as a plain value. -/
structure Tr where
  c : Nat
  many : Nat
  keep : Nat
  cut : Int
def trV (x : Tr) : Value := .agg #[.int .u8 (x.c : Nat), .int .u8 (x.many : Nat), .int .u8 (x.keep : Nat), .int .i64 x.cut]
def okT (x : Tr) : Prop := x.c < 256 ∧ x.many < 256 ∧ x.keep < 256 ∧ okI64 x.cut
end Go.Proofs.Yteoondmakdghhaa

namespace Go.Proofs.Yteoondmakdghhaa
set_option maxRecDepth 100000
open Go.ChangeShapes Go.WideShapes Go.ChangeAt Go.RowKit
set_option linter.unusedVariables false
set_option linter.unusedSimpArgs false
set_option maxRecDepth 100000
theorem trod_dev {H : Type} {enc : TypeId × Value → H} {W : World} {n : Nat} {cs : List Value} {y : DataW H × List MemPlace} (hl : cs.length = 6)
    (hf : DataW.trod enc Try.prog W 0 (fun _ => true) true n 24 cs = some y) :
    ∃ (x : Dv) (u : Value), cs = [u, .int .i64 x.size, .int .i64 x.mo, .int .i64 x.fuel, .bool x.off, .int .i64 x.bad] ∧ Zns W W.heap.size u x.zs ∧ okD x := by
  obtain ⟨v0, v1, v2, v3, v4, v5, rfl⟩ : ∃ a b c d e f, cs = [a, b, c, d, e, f] := by
    match cs, hl with
    | [a, b, c, d, e, f], _ => exact ⟨a, b, c, d, e, f, rfl⟩
  obtain ⟨xs, n', _, _, hl0, hlen, hg⟩ := DataW.trod_struct Try.underlying24 hf
  have hlen6 : xs.length = 6 := hlen
  have c0 : Try.prog.cellsOf 22 = 1 := by kernel_rfl
  have c1 : Try.prog.cellsOf 3 = 1 := by kernel_rfl
  have c2 : Try.prog.cellsOf 4 = 1 := by kernel_rfl
  have g0 := hg 0 _ rfl
  have g1 := hg 1 _ rfl
  have g2 := hg 2 _ rfl
  have g3 := hg 3 _ rfl
  have g4 := hg 4 _ rfl
  have g5 := hg 5 _ rfl
  rw [List.getElem?_eq_getElem (by omega)] at g0 g1 g2 g3 g4 g5
  simp [c0, c1, c2] at g0 g1 g2 g3 g4 g5
  obtain ⟨L, hL, mL⟩ := zns_cell g0
  obtain ⟨s1, e1, -, w1⟩ := DataW.trod_int Try.underlying3 g1
  obtain ⟨s2, e2, -, w2⟩ := DataW.trod_int Try.underlying3 g2
  obtain ⟨s3, e3, -, w3⟩ := DataW.trod_int Try.underlying3 g3
  obtain ⟨s4, e4, -⟩ := DataW.trod_bool Try.underlying4 g4
  obtain ⟨s5, e5, -, w5⟩ := DataW.trod_int Try.underlying3 g5
  simp at e1 e2 e3 e4 e5
  subst e1 e2 e3 e4 e5
  exact ⟨⟨L, s1, s2, s3, s4, s5⟩, v0, rfl, hL, mL, wf64 w1, wf64 w2, wf64 w3, wf64 w5⟩
/-- A look's eleven cells. -/
def lkV (d : Dv) (u : Value) (l : Ls) (KV : Value) (z n : Int) : Value := .agg #[u, .int .i64 d.size, .int .i64 d.mo, .int .i64 d.fuel, .bool d.off, .int .i64 d.bad, KV, .int .i64 l.zone, .int .i64 l.cut, .int .i64 z, .int .i64 n]
theorem open_look {H : Type} {enc : TypeId × Value → H} {W : World} {b0 : Nat} {v : Value} {d : DataW H} {p : List MemPlace} (hv : Value.okWide Try.prog W .any b0 29 v)
    (h : DataW.Trod enc Try.prog W 0 (fun _ => true) true 29 v d p) :
    ∃ (x : Dv) (u : Value) (l : Ls) (KV : Value) (z n : Int), v = lkV x u l KV z n ∧ Zns W W.heap.size u x.zs ∧ okD x ∧ Ints W W.heap.size KV l.keep ∧ okL l ∧ okI64 z ∧ okI64 n := by
  obtain ⟨cs, rfl, hsz⟩ := okWide_struct Try.underlying29 hv
  have h11 : Try.prog.cellsOf 29 = 11 := by kernel_rfl
  rw [h11] at hsz
  obtain ⟨v0, v1, v2, v3, v4, v5, v6, v7, v8, v9, v10, rfl⟩ : ∃ a b c d e f g h i j k, cs = #[a, b, c, d, e, f, g, h, i, j, k] := by
    obtain ⟨l⟩ := cs
    match l, hsz with
    | [a, b, c, d, e, f, g, h, i, j, k], _ => exact ⟨a, b, c, d, e, f, g, h, i, j, k, rfl⟩
  obtain ⟨fuel, hf⟩ := h
  obtain ⟨xs, n, _, _, hl0, hlen, hg⟩ := DataW.trod_struct Try.underlying29 hf
  have hlen4 : xs.length = 4 := hlen
  have c0 : Try.prog.cellsOf 24 = 6 := by kernel_rfl
  have c1 : Try.prog.cellsOf 27 = 3 := by kernel_rfl
  have c2 : Try.prog.cellsOf 3 = 1 := by kernel_rfl
  have g0 := hg 0 _ rfl
  have g1 := hg 1 _ rfl
  have g2 := hg 2 _ rfl
  have g3 := hg 3 _ rfl
  rw [List.getElem?_eq_getElem (by omega)] at g0 g1 g2 g3
  simp [Value.cells, c0, c1, c2] at g0 g1 g2 g3
  obtain ⟨x, u, ex, hx, okx⟩ := trod_dev (by simp) g0
  obtain ⟨l, KV, el, hl, okl⟩ := trod_ls (by simp) g1
  obtain ⟨s2, e2, -, w2⟩ := DataW.trod_int Try.underlying3 g2
  obtain ⟨s3, e3, -, w3⟩ := DataW.trod_int Try.underlying3 g3
  simp at e2 e3 ex el
  obtain ⟨rfl, rfl, rfl, rfl, rfl, rfl⟩ := ex
  obtain ⟨rfl, rfl, rfl⟩ := el
  subst e2 e3
  exact ⟨x, _, l, _, s2, s3, rfl, hx, okx, hl, okl, wf64 w2, wf64 w3⟩
/-- A loss in a box. -/
def LB (w : World) (p nk : Nat) (KA : Option Addr) (kc : Nat) (zo cu : Int) : Prop := Bx w p 27 #[.slice KA nk kc, .int .i64 zo, .int .i64 cu]
/-- Zones cannot lie in a loss's box: they stay where that is written. -/
theorem Zns.offL {w w' : World} {B : Nat} {v : Value} {l : List Zn} {t : TypeId} {A : Option Addr} {n c : Nat} {i1 i2 : Int} (h : Zns w w.heap.size v l) (b : Bx w B t #[.slice A n c, .int .i64 i1, .int .i64 i2])
    (k : ∀ j, j ≠ B → w'.heap[j]? = w.heap[j]?) (hs : w.heap.size ≤ w'.heap.size) : Zns w' w'.heap.size v l := by
  have hb : w.heap[B]? = some (.cells #[.slice A n c, .int .i64 i1, .int .i64 i2] t (0, 0)) := b
  have nostr : ∀ (q : Addr) (s : ByteArray), w.cell? q = some (.string s) → q.block ≠ B := by
    rintro ⟨qb, qo, qx⟩ s h e
    simp only at e
    subst e
    cases qx with
    | none =>
      simp [World.cell?, hb] at h
      match qo, h with
      | 0, h => simp at h
      | 1, h => simp at h
      | 2, h => simp at h
      | (_ + 3), h => simp at h
    | some _ => simp [World.cell?, hb] at h
  obtain ⟨A1, c1, e, e0, ez, eo, f⟩ := h
  refine ⟨A1, c1, e, e0, ez, eo, fun i hi => ?_⟩
  obtain ⟨a, e1, e2, h1, h2, u, h3, h4⟩ := f i hi
  have hne : (a.add (i * 3)).block ≠ B := by
    obtain ⟨A2, c2, rfl, -⟩ := h4
    intro e
    have g2 : w.cell? ⟨B, (a.add (i * 3)).off + 2, none⟩ = some (.bool l[i].full) := by rw [← e]; exact h2
    rw [b.cell] at g2
    have hoff : (a.add (i * 3)).off = 2 := by
      match ho : (a.add (i * 3)).off, g2 with
      | 0, g => simp at g
      | 1, g => simp at g
      | 2, g => rfl
      | 3, g => simp at g
      | (_ + 4), g => simp at g
    have key : ∀ p : Addr, p.block = B → p.off = 2 → w.cell? p = some (.slice A2 l[i].b.length c2) → False := by
      rintro ⟨pb, po, px⟩ e hoff h3
      simp only at e hoff
      subst e hoff
      cases px with
      | none => simp [World.cell?, hb] at h3
      | some _ => simp [World.cell?, hb] at h3
    exact key _ e hoff h3
  have keep : ∀ q : Addr, q.block ≠ B → w'.cell? q = w.cell? q := fun q hq => World.cell?_of_block (k _ hq)
  refine ⟨a, e1, Nat.lt_of_lt_of_le e2 hs, (keep ⟨(a.add (i * 3)).block, (a.add (i * 3)).off + 1, none⟩ hne).trans h1, (keep ⟨(a.add (i * 3)).block, (a.add (i * 3)).off + 2, none⟩ hne).trans h2, u, (keep _ hne).trans h3, ?_⟩
  obtain ⟨A2, c2, g1, g2, g3, g4⟩ := h4
  refine ⟨A2, c2, g1, g2, g3, fun j hj => ?_⟩
  obtain ⟨q, q1, q2, q3⟩ := g4 j hj
  exact ⟨q, q1, Nat.lt_of_lt_of_le q2 hs, (keep _ (nostr _ _ q3)).trans q3⟩
end Go.Proofs.Yteoondmakdghhaa

namespace Go.Proofs.Yteoondmakdghhaa
set_option maxRecDepth 100000
open Go.ChangeShapes Go.WideShapes Go.ChangeAt Go.RowKit
set_option linter.unusedVariables false
set_option linter.unusedSimpArgs false
set_option maxRecDepth 100000
set_option maxHeartbeats 16000000 in
theorem with_any (d : Dv) (u : Value) (z : Nat) (x : Zn) (v : Value) (w : World) (hl : d.zs.length ≤ 100000) (ht : Zns w w.heap.size u d.zs) (hx : okZ x) (hv : Blks w w.heap.size v x.b) :
    Calls Try.prog 30 #[dvV d u, .int .i64 z, znV x v] w (CraC { d with zs := d.zs.set z x } w) := by
  obtain ⟨A0, c0, rfl⟩ := ht.form
  obtain ⟨Ax, cx, rfl⟩ := hv.form
  have HT := Lib.hid ht
  have HXV := Lib.hid hv
  have HXO := Lib.hid hx
  clear ht hv hx
  obtain ⟨n0, hn0⟩ : ∃ n, n = d.zs.length := ⟨_, rfl⟩
  have HPO : Hid (∀ e w', (∃ v, e = .returned (dvV { d with zs := d.zs.set z x } v) ∧ Zns w' w'.heap.size v (d.zs.set z x) ∧ Q w w') → CraC { d with zs := d.zs.set z x } w e w') := Lib.hid (fun e w' h => h)
  generalize CraC { d with zs := d.zs.set z x } w = PO at HPO ⊢
  obtain ⟨L, hL⟩ : ∃ l, l = d.zs.set z x := ⟨_, rfl⟩
  have hLn : L.length = n0 := by rw [hL, List.length_set, hn0]
  have HGET : Hid (∀ i (hi : i < L.length), ∃ hj : i < d.zs.length, L[i] = if i = z then x else d.zs[i]) := Lib.hid (fun i hi => by
    have hj : i < d.zs.length := by rw [← hn0, ← hLn]; exact hi
    refine ⟨hj, ?_⟩
    subst hL
    rw [List.getElem_set]
    by_cases e : z = i
    · rw [if_pos e, if_pos e.symm]
    · rw [if_neg e, if_neg (fun h => e h.symm)])
  rw [← hL] at HPO
  rw [← hn0] at hl HT ⊢
  have HN0 := Lib.hid hn0
  obtain ⟨zs, size, mo, fuel, off, bad⟩ := d
  rw [dvV, znV]
  simp only at HT HPO HGET HN0 ⊢
  obtain ⟨xb, xf, xu⟩ := x
  simp only at HXV ⊢
  obtain ⟨lx, hlx⟩ : ∃ n, n = xb.length := ⟨_, rfl⟩
  rw [← hlx] at HXV ⊢
  clear hn0 hL hlx
  have b0 := ((Bx.new w 24 #[.slice A0 n0 c0, .int .i64 size, .int .i64 mo, .int .i64 fuel, .bool off, .int .i64 bad]).alloc (.cells #[.slice Ax lx cx, .int .i64 xf, .bool xu] 45)).alloc (.cells #[.slice none 0 0, .int .i64 0, .int .i64 0, .int .i64 0, .bool false, .int .i64 0] 24)
  have b1 := (Bx.new (w.alloc (.cells #[.slice A0 n0 c0, .int .i64 size, .int .i64 mo, .int .i64 fuel, .bool off, .int .i64 bad] 24)) 45 #[.slice Ax lx cx, .int .i64 xf, .bool xu]).alloc (.cells #[.slice none 0 0, .int .i64 0, .int .i64 0, .int .i64 0, .bool false, .int .i64 0] 24)
  have b2 := Bx.new ((w.alloc (.cells #[.slice A0 n0 c0, .int .i64 size, .int .i64 mo, .int .i64 fuel, .bool off, .int .i64 bad] 24)).alloc (.cells #[.slice Ax lx cx, .int .i64 xf, .bool xu] 45)) 24 #[.slice none 0 0, .int .i64 0, .int .i64 0, .int .i64 0, .bool false, .int .i64 0]
  have q0 := (((Q.refl w).alloc (.cells #[.slice A0 n0 c0, .int .i64 size, .int .i64 mo, .int .i64 fuel, .bool off, .int .i64 bad] 24)).alloc (.cells #[.slice Ax lx cx, .int .i64 xf, .bool xu] 45)).alloc (.cells #[.slice none 0 0, .int .i64 0, .int .i64 0, .int .i64 0, .bool false, .int .i64 0] 24)
  have hs0 : (((w.alloc (.cells #[.slice A0 n0 c0, .int .i64 size, .int .i64 mo, .int .i64 fuel, .bool off, .int .i64 bad] 24)).alloc (.cells #[.slice Ax lx cx, .int .i64 xf, .bool xu] 45)).alloc (.cells #[.slice none 0 0, .int .i64 0, .int .i64 0, .int .i64 0, .bool false, .int .i64 0] 24)).heap.size = w.heap.size + 1 + 1 + 1 := by simp
  simp only [World.size_alloc] at b1 b2
  obtain ⟨W0, hW0⟩ : ∃ z, z = ((w.alloc (.cells #[.slice A0 n0 c0, .int .i64 size, .int .i64 mo, .int .i64 fuel, .bool off, .int .i64 bad] 24)).alloc (.cells #[.slice Ax lx cx, .int .i64 xf, .bool xu] 45)).alloc (.cells #[.slice none 0 0, .int .i64 0, .int .i64 0, .int .i64 0, .bool false, .int .i64 0] 24) := ⟨_, rfl⟩
  rw [← hW0] at b0 b1 b2 q0 hs0
  have BX0 := Lib.hid b0
  have BX1 := Lib.hid b1
  have BX2 := Lib.hid b2
  have Q0 := Lib.hid q0
  have HS0 := Lib.hid hs0
  clear b0 b1 b2 q0 hs0
  go_enter Try.func30, Try.ntmps30
  go_upto_region 1 with fail
  rw [← hW0]
  clear hW0
  go_wp2_with fail
  go_loopw [7, 8] (fun V I wr => ∃ i : Nat, i ≤ n0 ∧ I = .int .i64 i ∧ Hid (OwnZ W0.heap.size wr V (L.take i)) ∧ Hid (Q W0 wr)) (fun _ I _ => n0 - (intOf I).toNat)
  case atStart => exact ⟨0, Nat.zero_le _, rfl, Lib.hid (OwnZ.nil _ _), Lib.hid (Q.refl _)⟩
  case round =>
    obtain ⟨i, hil, rfl, HOWN, HQ⟩ := hrel
    obtain ⟨A5, c5, hV⟩ := HOWN.out.form
    have hlen : (L.take i).length = i := by rw [List.length_take]; omega
    rw [hlen] at hV
    have x0 : wr.cell? ⟨w.heap.size, 0, none⟩ = some (.slice A0 n0 c0) := (BX0.out.on HQ.out).cell 0
    by_cases hlt : i < n0
    · have hilt : (i : Int) < (n0 : Int) := by omega
      have hiL : i < L.length := by omega
      obtain ⟨hj, hg⟩ := HGET.out i hiL
      have HST0 : Hid (L.take (i + 1) = L.take i ++ [L[i]]) := Lib.hid (List.take_succ_eq_append_getElem hiL)
      subst hV
      by_cases hz : i = z
      · have hz' : ((i : Int) == (z : Int)) = true := by simp [hz]
        rw [if_pos hz] at hg
        have HSTEP : Hid (L.take (i + 1) = L.take i ++ [⟨xb, xf, xu⟩]) := Lib.hid (by rw [HST0.out, hg])
        obtain ⟨y0, y1, y2⟩ : wr.cell? ⟨w.heap.size + 1, 0, none⟩ = some (.slice Ax lx cx) ∧ wr.cell? ⟨w.heap.size + 1, 1, none⟩ = some (.int .i64 xf) ∧ wr.cell? ⟨w.heap.size + 1, 2, none⟩ = some (.bool xu) := ⟨(BX1.out.on HQ.out).cell 0, (BX1.out.on HQ.out).cell 1, (BX1.out.on HQ.out).cell 2⟩
        have HPP : Hid (okZ (⟨xb, xf, xu⟩ : Zn) ∧ AptZ W0.heap.size (wr.alloc (.cells #[.slice Ax lx cx, .int .i64 xf, .bool xu] 45)) (.slice Ax lx cx) xb) := Lib.hid ⟨HXO.out, .inl ((HXV.out.below (Q0.out.trans (HQ.out.alloc _))).more Q0.out.size)⟩
        clear hz hg HST0 hlen
        go_wp2_with (at_builtin; refine wpList_snoc_zn _ rfl _ _ 22 Try.underlying22 rfl W0.heap.size wr.heap.size _ (L.take i) ((⟨xb, xf, xu⟩ : Zn), Value.slice Ax lx cx) rfl rfl (cells_oneZ wr ((⟨xb, xf, xu⟩ : Zn), Value.slice Ax lx cx) 45) (HOWN.out.on ((Q.refl wr).alloc _) HQ.out.size) HPP.out ?hb ?hl ?_; (case hb => have h9 := HQ.out.size; simp; omega); (case hl => rw [List.length_take]; omega); intro v1 w2 h1 h2; have HO2 := Lib.hid h1; have HG2 := Lib.hid h2; clear h1 h2; refine Hid.out ?_)
        refine Lib.hid ?_
        have HQ2 : Hid (Q W0 w2) := Lib.hid (Below.grown (HQ.out.alloc _) HG2.out (by have h9 := HQ.out.size; simp; omega) (fun k e => (HOWN.out.lt k e).1))
        go_wp2_with fail
        go_roundw
        case rel => exact ⟨i + 1, by omega, by go_num, Lib.hid (by rw [HSTEP.out]; exact HO2.out), HQ2⟩
        case measure => simp [intOf]; omega
      · have hz' : ((i : Int) == (z : Int)) = false := by rw [beq_eq_false_iff_ne]; omega
        rw [if_neg hz] at hg
        obtain ⟨a, c1, A1, n1, e1, ha, hok, hat⟩ := HT.out.pick i hj
        injection e1 with e1 e2 e3
        subst e1
        obtain ⟨z0, z1, z2, zb⟩ := hat wr (Q0.out.trans HQ.out)
        have zb0 := (hat w (Q.refl _)).2.2.2
        have HSTEP : Hid (L.take (i + 1) = L.take i ++ [zs[i]]) := Lib.hid (by rw [HST0.out, hg])
        have HZB := Lib.hid zb0
        have HOK := Lib.hid hok
        obtain ⟨y, hy⟩ : ∃ y, y = zs[i] := ⟨_, rfl⟩
        rw [← hy] at z0 z1 z2 HSTEP HZB HOK
        obtain ⟨ly, hly⟩ : ∃ n, n = y.b.length := ⟨_, rfl⟩
        rw [← hly] at z0 HZB
        have HPP : Hid (okZ y ∧ AptZ W0.heap.size (wr.alloc (.cells #[.slice A1 ly n1, .int .i64 y.firm, .bool y.full] 45)) (.slice A1 ly n1) y.b) := Lib.hid ⟨HOK.out, .inl ((HZB.out.below (Q0.out.trans (HQ.out.alloc _))).more Q0.out.size)⟩
        clear hz hg HST0 hlen hok hat zb zb0 hy hly e2 e3
        go_wp2_with (at_builtin; refine wpList_snoc_zn _ rfl _ _ 22 Try.underlying22 rfl W0.heap.size wr.heap.size _ (L.take i) (y, Value.slice A1 ly n1) rfl rfl (cells_oneZ wr (y, Value.slice A1 ly n1) 45) (HOWN.out.on ((Q.refl wr).alloc _) HQ.out.size) HPP.out ?hb ?hl ?_; (case hb => have h9 := HQ.out.size; simp; omega); (case hl => rw [List.length_take]; omega); intro v1 w2 h1 h2; have HO2 := Lib.hid h1; have HG2 := Lib.hid h2; clear h1 h2; refine Hid.out ?_)
        refine Lib.hid ?_
        have HQ2 : Hid (Q W0 w2) := Lib.hid (Below.grown (HQ.out.alloc _) HG2.out (by have h9 := HQ.out.size; simp; omega) (fun k e => (HOWN.out.lt k e).1))
        go_wp2_with fail
        go_roundw
        case rel => exact ⟨i + 1, by omega, by go_num, Lib.hid (by rw [HSTEP.out]; exact HO2.out), HQ2⟩
        case measure => simp [intOf]; omega
    · obtain rfl : i = n0 := by omega
      have hilt : ¬ (i : Int) < (i : Int) := by omega
      have HOW2 : Hid (Zns wr wr.heap.size (.slice A5 i c5) L) := Lib.hid (by
        have := HOWN.out.zns HQ.out.size
        rw [hV] at this
        rwa [List.take_of_length_le (by omega)] at this)
      subst hV
      have b0 := BX0.out.on HQ.out
      have b2 := BX2.out.on HQ.out
      have f0 := b0.frozen 0
      go_upto_region 9 with fail
      have c0' := b0.set 0 (.slice A5 i c5)
      have c1' := b2.other (B2 := w.heap.size) (by omega) 0 (.slice A5 i c5)
      have q8 : Q w (wr.setCell ⟨w.heap.size, 0, none⟩ (.slice A5 i c5)) := Q.set (Q0.out.trans HQ.out) (by omega) _
      have z8 := Zns.off HOW2.out b0 (fun j hj => heap_set wr w.heap.size 0 (.slice A5 i c5) hj) (by simp)
      obtain ⟨w8, hw8⟩ : ∃ z, z = wr.setCell ⟨w.heap.size, 0, none⟩ (.slice A5 i c5) := ⟨_, rfl⟩
      rw [← hw8] at c0' c1' q8 z8 ⊢
      clear hw8 x0 f0 b0 b2
      simp only [List.setIfInBounds_toArray, List.set_cons_zero, List.set_cons_succ] at c0'
      have HZ8 := Lib.hid z8
      have HC1 := Lib.hid c1'
      obtain ⟨x0, x1, x2, x3, x4, x5⟩ : w8.cell? ⟨w.heap.size, 0, none⟩ = some (.slice A5 i c5) ∧ w8.cell? ⟨w.heap.size, 1, none⟩ = some (.int .i64 size) ∧ w8.cell? ⟨w.heap.size, 2, none⟩ = some (.int .i64 mo) ∧ w8.cell? ⟨w.heap.size, 3, none⟩ = some (.int .i64 fuel) ∧ w8.cell? ⟨w.heap.size, 4, none⟩ = some (.bool off) ∧ w8.cell? ⟨w.heap.size, 5, none⟩ = some (.int .i64 bad) := ⟨c0'.cell 0, c0'.cell 1, c0'.cell 2, c0'.cell 3, c0'.cell 4, c0'.cell 5⟩
      obtain ⟨g0, g1, g2, g3, g4, g5⟩ : w8.cell? ⟨w.heap.size + 1 + 1, 0, none⟩ = some (.slice none 0 0) ∧ w8.cell? ⟨w.heap.size + 1 + 1, 1, none⟩ = some (.int .i64 0) ∧ w8.cell? ⟨w.heap.size + 1 + 1, 2, none⟩ = some (.int .i64 0) ∧ w8.cell? ⟨w.heap.size + 1 + 1, 3, none⟩ = some (.int .i64 0) ∧ w8.cell? ⟨w.heap.size + 1 + 1, 4, none⟩ = some (.bool false) ∧ w8.cell? ⟨w.heap.size + 1 + 1, 5, none⟩ = some (.int .i64 0) := ⟨c1'.cell 0, c1'.cell 1, c1'.cell 2, c1'.cell 3, c1'.cell 4, c1'.cell 5⟩
      have l0 := c1'.frozen 0
      have l1 := c1'.frozen 1
      have l2 := c1'.frozen 2
      have l3 := c1'.frozen 3
      have l4 := c1'.frozen 4
      have l5 := c1'.frozen 5
      have c9 := ((((((c1'.set 0 (.slice A5 i c5)).set 1 (.int .i64 size)).set 2 (.int .i64 mo)).set 3 (.int .i64 fuel)).set 4 (.bool off)).set 5 (.int .i64 bad))
      have q9 : Q w ((((((w8.setCell ⟨w.heap.size + 1 + 1, 0, none⟩ (.slice A5 i c5)).setCell ⟨w.heap.size + 1 + 1, 1, none⟩ (.int .i64 size)).setCell ⟨w.heap.size + 1 + 1, 2, none⟩ (.int .i64 mo)).setCell ⟨w.heap.size + 1 + 1, 3, none⟩ (.int .i64 fuel)).setCell ⟨w.heap.size + 1 + 1, 4, none⟩ (.bool off)).setCell ⟨w.heap.size + 1 + 1, 5, none⟩ (.int .i64 bad)) := (Q.set (Q.set (Q.set (Q.set (Q.set (Q.set q8 (by omega) _) (by omega) _) (by omega) _) (by omega) _) (by omega) _) (by omega) _)
      have k9 : ∀ j, j ≠ w.heap.size + 1 + 1 → ((((((w8.setCell ⟨w.heap.size + 1 + 1, 0, none⟩ (.slice A5 i c5)).setCell ⟨w.heap.size + 1 + 1, 1, none⟩ (.int .i64 size)).setCell ⟨w.heap.size + 1 + 1, 2, none⟩ (.int .i64 mo)).setCell ⟨w.heap.size + 1 + 1, 3, none⟩ (.int .i64 fuel)).setCell ⟨w.heap.size + 1 + 1, 4, none⟩ (.bool off)).setCell ⟨w.heap.size + 1 + 1, 5, none⟩ (.int .i64 bad)).heap[j]? = w8.heap[j]? := fun j hne => (heap_set _ _ _ _ hne).trans ( (heap_set _ _ _ _ hne).trans ( (heap_set _ _ _ _ hne).trans ( (heap_set _ _ _ _ hne).trans ( (heap_set _ _ _ _ hne).trans ( heap_set _ _ _ _ hne)))))
      have s9 : w8.heap.size ≤ (((((((w8.setCell ⟨w.heap.size + 1 + 1, 0, none⟩ (.slice A5 i c5)).setCell ⟨w.heap.size + 1 + 1, 1, none⟩ (.int .i64 size)).setCell ⟨w.heap.size + 1 + 1, 2, none⟩ (.int .i64 mo)).setCell ⟨w.heap.size + 1 + 1, 3, none⟩ (.int .i64 fuel)).setCell ⟨w.heap.size + 1 + 1, 4, none⟩ (.bool off)).setCell ⟨w.heap.size + 1 + 1, 5, none⟩ (.int .i64 bad))).heap.size := by simp
      obtain ⟨w9, hw9⟩ : ∃ z, z = ((((((w8.setCell ⟨w.heap.size + 1 + 1, 0, none⟩ (.slice A5 i c5)).setCell ⟨w.heap.size + 1 + 1, 1, none⟩ (.int .i64 size)).setCell ⟨w.heap.size + 1 + 1, 2, none⟩ (.int .i64 mo)).setCell ⟨w.heap.size + 1 + 1, 3, none⟩ (.int .i64 fuel)).setCell ⟨w.heap.size + 1 + 1, 4, none⟩ (.bool off)).setCell ⟨w.heap.size + 1 + 1, 5, none⟩ (.int .i64 bad)) := ⟨_, rfl⟩
      rw [← hw9] at c9 q9 k9 s9
      have KSZ := Lib.hid s9
      clear s9
      simp only [List.setIfInBounds_toArray, List.set_cons_zero, List.set_cons_succ] at c9
      have C9 := Lib.hid c9
      have Q9 := Lib.hid q9
      have K9 := Lib.hid k9
      clear c9 q9 k9
      go_wp2_with fail
      rw [← hw9]
      clear hw9
      obtain ⟨k0, k1, k2, k3, k4, k5⟩ : w9.cell? ⟨w.heap.size + 1 + 1, 0, none⟩ = some (.slice A5 i c5) ∧ w9.cell? ⟨w.heap.size + 1 + 1, 1, none⟩ = some (.int .i64 size) ∧ w9.cell? ⟨w.heap.size + 1 + 1, 2, none⟩ = some (.int .i64 mo) ∧ w9.cell? ⟨w.heap.size + 1 + 1, 3, none⟩ = some (.int .i64 fuel) ∧ w9.cell? ⟨w.heap.size + 1 + 1, 4, none⟩ = some (.bool off) ∧ w9.cell? ⟨w.heap.size + 1 + 1, 5, none⟩ = some (.int .i64 bad) := ⟨C9.out.cell 0, C9.out.cell 1, C9.out.cell 2, C9.out.cell 3, C9.out.cell 4, C9.out.cell 5⟩
      (try simp only [Exit.inBlock, Exit.then])
      refine bodyPost_ret (v := .agg #[.slice A5 i c5, .int .i64 size, .int .i64 mo, .int .i64 fuel, .bool off, .int .i64 bad]) ?_ rfl ?_
      · simp [results, Try.results30, go_sem] at k0 k1 k2 k3 k4 k5 ⊢
        simp [k0, k1, k2, k3, k4, k5]
      · exact HPO.out _ _ ⟨.slice A5 i c5, rfl, Zns.off HZ8.out HC1.out K9.out KSZ.out, Q9.out⟩
end Go.Proofs.Yteoondmakdghhaa

namespace Go.Proofs.Yteoondmakdghhaa
set_option maxRecDepth 100000
open Go.ChangeShapes Go.WideShapes Go.ChangeAt Go.RowKit
set_option linter.unusedVariables false
set_option linter.unusedSimpArgs false
/-- A block's octets, those from c up to j as noughts. -/
def zl (t : ByteArray) (c j : Nat) : List UInt8 := (bl t).mapIdx fun i b => if c ≤ i ∧ i < j then 0 else b
theorem zl_len (t : ByteArray) (c j : Nat) : (zl t c j).length = t.size := by rw [zl, List.length_mapIdx, bl_length]
theorem zl_zero (t : ByteArray) (c : Nat) : zl t c c = bl t := by
  refine List.ext_getElem (by rw [zl_len, bl_length]) fun i h1 h2 => ?_
  simp only [zl, List.getElem_mapIdx]
  rw [if_neg (by omega)]
theorem zl_set (t : ByteArray) (c j : Nat) (h : c ≤ j) : (zl t c j).set j 0 = zl t c (j + 1) := by
  refine List.ext_getElem (by rw [List.length_set, zl_len, zl_len]) fun i h1 h2 => ?_
  rw [List.getElem_set]
  simp only [zl, List.getElem_mapIdx]
  by_cases e : j = i
  · rw [if_pos e, if_pos (by omega)]
  · rw [if_neg e]
    by_cases h3 : c ≤ i ∧ i < j
    · rw [if_pos h3, if_pos (by omega)]
    · rw [if_neg h3, if_neg (by omega)]
theorem zl_end (t : ByteArray) (c j : Nat) (cut : Int) (ht : t.size = 64) (hc : cut = (c : Nat)) (hj : 64 ≤ j) : mk (zl t c j) = tearB t cut := by
  unfold tearB
  congr 1
  subst hc
  rw [Int.toNat_natCast]
  refine List.ext_getElem ?_ fun i h1 h2 => ?_
  · rw [zl_len, List.length_append, List.length_take, List.length_replicate, bl_length]; omega
  · rw [zl_len] at h1
    simp only [zl, List.getElem_mapIdx]
    by_cases h : c ≤ i
    · rw [if_pos ⟨h, by omega⟩, List.getElem_append_right (by rw [List.length_take, bl_length]; omega), List.getElem_replicate]
    · rw [if_neg (by omega), List.getElem_append_left (by rw [List.length_take, bl_length]; omega), List.getElem_take]
/-- A row of octets of which the first ones are those. -/
def BRow (W : World) (g : Nat) (l : List UInt8) : Prop := g < W.heap.size ∧ ∀ j (h : j < l.length), W.cell? ⟨g, j, none⟩ = some (.int .u8 (l[j].toNat : Nat)) ∧ W.frozen? ⟨g, j, none⟩ = false
theorem BRow.on {W W' : World} {g : Nat} {l : List UInt8} (h : BRow W g l) (q : Q W W') : BRow W' g l := by
  refine ⟨Nat.lt_of_lt_of_le h.1 q.size, fun j hj => ⟨(q.cell h.1).trans (h.2 j hj).1, ?_⟩⟩
  have := (h.2 j hj).2
  unfold World.frozen? at this ⊢
  rw [q.block g h.1]
  exact this
theorem BRow.set {W : World} {g : Nat} {l : List UInt8} (h : BRow W g l) (i : Nat) (y : UInt8) (hi : i < l.length) : BRow (W.setCell ⟨g, i, none⟩ (.int .u8 (y.toNat : Nat))) g (l.set i y) := by
  refine ⟨by simpa using h.1, fun j hj => ?_⟩
  rw [List.length_set] at hj
  refine ⟨?_, ?_⟩
  · rw [List.getElem_set]
    by_cases e : i = j
    · subst e
      rw [if_pos rfl]
      exact World.cell?_setCell_same _ _ _ (h.2 i hi).1
    · rw [if_neg e, World.cell?_setCell_other _ _ _ _ (fun e2 => e (by injection e2))]
      exact (h.2 j hj).1
  · rw [World.frozen?_setCell]
    exact (h.2 j hj).2
theorem BRow.conv {W : World} {g : Nat} {l : List UInt8} {n cap : Nat} (h : BRow W g l) (hn : n = l.length) :
    (convert 65 9 (.slice (some ⟨g, 0, none⟩) n cap)).run Try.prog W = .ok (.string (mk l)) W := by
  subst hn
  refine run_convert_bytes_back (P := Try.prog) W 65 9 5 ⟨g, 0, none⟩ cap l Try.underlying65 Try.underlying5 Try.underlying9 fun j hj => ?_
  rw [add_flat]
  exact (h.2 j hj).1
theorem conv_brow (D : ByteArray) (w : World) : ∃ W cap, (convert 9 65 (.string D)).run Try.prog w = .ok (.slice (some ⟨w.heap.size, 0, none⟩) D.size cap) W ∧ D.size ≤ cap ∧ Q w W ∧ BRow W w.heap.size (bl D) := by
  refine ⟨_, _, Lib.run_convert_string_bytes w 9 65 5 D Try.underlying9 Try.underlying65 Try.underlying5, grownCap_ge _ _ _ _, Joins.below_bytesWorld _ _ _ _ (Nat.le_refl _), by rw [Lib.bytesWorld_size]; omega, fun j h => ?_⟩
  have h' : j < D.size := by rw [← bl_length]; exact h
  refine ⟨?_, ?_⟩
  · rw [Lib.bytesWorld_cell w 5 D j h']
    have : D.data.toList.getD j 0 = (bl D)[j] := by
      rw [List.getD_eq_getElem?_getD, List.getElem?_eq_getElem (by simpa using h'), Option.getD_some]; rfl
    rw [this]; try rfl
  · have hs : D.size ≤ (Lib.bytesCells w 5 D).size := by simp [Lib.bytesCells]
    simp only [World.frozen?, Lib.bytesWorld_at_new]
    have : ¬ (Lib.bytesCells w 5 D).size ≤ j := by omega
    simp [this]
theorem crashB_tear (l : Ls) (i k : Nat) (z : Zn) (hk : keptN l i z = k) (h : k < z.b.length) (h1 : (i : Int) = l.zone) (h2 : 0 < l.cut) : crashB l i z = z.b.take k ++ [tearB z.b[k] l.cut] := by
  subst hk
  unfold crashB
  rw [if_pos ⟨h1, h2⟩, List.drop_eq_getElem_cons h]
  simp only [List.take_succ_cons, List.take_zero, List.map_cons, List.map_nil]
/-- One more at the end of a slice of one's own, in a row of operations. -/
theorem wpList_snoc_apt {w : World} {ops : Array Oper} {rest : List Oper} {o : Oper} {a : Act} {Q' : Exit → Act → World → Prop} (hgd : o.guard = none) (p x : Operand)
    (ho : o.op = .call { callee := .builtin .append, args := #[p, x], argTypes := #[31, 31] })
    (R s g c : Nat) (v : Value) (l : List ByteArray) (t : ByteArray) (hv : a.eval p = v) (hx : a.eval x = .slice (some ⟨g, 0, none⟩) 1 c) (h : AptT R s w v l) (hg : w.cell? ⟨g, 0, none⟩ = some (.string t)) (hs : s ≤ w.heap.size) (hl : l.length ≤ 1000000)
    (k : ∀ A n cc w', Hid (OwnT s w' (.slice A n cc) (l ++ [t])) → Hid (Below s w w') → wpList Try.prog ops Q' rest (a.put o.dst (.slice A n cc)) w') :
    wpList Try.prog ops Q' (o :: rest) a w := by
  refine wpList_plain hgd fun K hK => ?_
  obtain ⟨v', w', h1, h2, h3⟩ := run_snoc_apt w R s g o.type v l t (c := c) h hg hs hl
  obtain ⟨A, cc, e⟩ := h2.form
  subst e
  unfold Oper.wp execOp
  simp only [ho, resolve, invoke, builtin, Sem.run_bind, Sem.run_pure, Result.andThen_ok, List.map_toArray, List.map_cons, List.map_nil, hv, hx, h1]
  exact hK _ _ (k _ _ _ _ (Lib.hid h2) (Lib.hid h3))
end Go.Proofs.Yteoondmakdghhaa

