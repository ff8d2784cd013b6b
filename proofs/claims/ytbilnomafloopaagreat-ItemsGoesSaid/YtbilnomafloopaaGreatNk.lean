/-
  Slices of tags of one's own (as in the text of stage 4, without that stage's laws). Pieces: do they rise, and their tags: contracts. The octets of the parts that pieces name: a strings.Builder of the call's own, and octets over it. Is there a piece that lacks something: contracts of ContainsFunc and IndexFunc over pieces. What Whole comes to, and the contract of the program's Whole. What a bucket may be, and what each thing that is done to it comes to, without a word of memory. An index with some of its entries exchanged, with lists of its own: contracts of cut, entries, Clone, apart. apart; the plain facts of an index in order. Contract of Put of an index. Plain facts of indices: Few, Put. Plain facts: what is begun, laid and aborted keeps the rules. Plain facts on chains that may be. A bucket that may be stays one, whatever is done to it, without a word of memory. Depots that may be. A bucket that may be is small enough for its items, which have names of their own; depots that may be. Contract of give: the next number is given out. Contracts of the methods of a bucket at work: giveVersion, setVersions, turn. Contracts of the methods of a bucket at work: setVersions. Contracts of the methods of a bucket at work: put, delete, drop, and the functions that they hand on. Contracts of put, delete and drop of a bucket at work. A region that draws its order, loads cells, calls, and at its end stores into the cells that it has loaded: what is loaded is known till operation st, the first of the stores, comes up. Contracts of begin, lay, abort and whole of a bucket at work. Contract of whole of a bucket at work. Contracts of the program's octets, mayNumber and Check of a bucket, of Empty and of New.
-/
import Derived.Test.YtbilnomafloopaaGreatNj
import Derived.Laws.AppendOwnNone
import Derived.Lib.Builder
import Derived.Lib.AppendStr
import Derived.Lib.UnsafeStr
import Derived.Laws.Externs
import Derived.Test.YtbilnomafloopaaGreatNd
import Derived.Test.YtbilnomafloopaaGreatNh
import Derived.Test.YtbilnomafloopaaGreatNi
import Derived.Shelf.Abstract
import Derived.Deep.DeepCutAuto
import Derived.Deep.RegionHeld3
import Derived.Laws.ResultCell
import Derived.Test.YtbilnomafloopaaGreatNa
import Derived.Deep.RegionHeld
namespace Go.Proofs.YtbilnomafloopaaGreat
set_option maxRecDepth 100000
open Go.ChangeShapes Go.WideShapes Go.ChangeAt Go.RowKit
set_option linter.unusedVariables false
/-- Numbers as cells. -/
def u32s (l : List Nat) : List Value := l.map fun n => Value.int .u32 (n : Nat)
theorem u32s_length (l : List Nat) : (u32s l).length = l.length := by simp [u32s]
theorem u32s_append (a b : List Nat) : u32s (a ++ b) = u32s a ++ u32s b := by simp [u32s]
def OwnN (base : Nat) (w : World) (v : Value) (l : List Nat) : Prop := w.ownsRow base 107 1 v l.length (u32s l)
theorem Nums.take {w : World} {B c : Nat} {a : Addr} {l : List Nat} (h : Nums w B (.slice (some a) l.length c) l) {k : Nat} (hk : k ≤ l.length) : Nums w B (.slice (some a) k c) (l.take k) := by
  obtain ⟨A, c', e, e0, -, f⟩ := h
  simp only [Value.slice.injEq, true_and] at e
  obtain ⟨rfl, rfl⟩ := e
  have hl : (l.take k).length = k := by rw [List.length_take]; omega
  refine ⟨some a, c, by rw [hl], by omega, (by simp), fun i hi => ?_⟩
  obtain ⟨a', e1, e2, e3, e4⟩ := f i (by omega)
  refine ⟨a', e1, e2, ?_, ?_⟩
  · rw [List.getElem_take]; exact e3
  · rw [List.getElem_take]; exact e4
theorem Nums.lt {w : World} {B : Nat} {v : Value} {l : List Nat} (h : Nums w B v l) : ∀ n ∈ l, n < 4294967296 := by
  obtain ⟨A, c, -, -, -, f⟩ := h
  intro n hn
  obtain ⟨i, hi, rfl⟩ := List.getElem_of_mem hn
  obtain ⟨a, -, -, e, -⟩ := f i hi
  exact e
theorem Nums.cells {w : World} {B c n : Nat} {a : Addr} {l : List Nat} (h : Nums w B (.slice (some a) n c) l) : ∀ j u, (u32s l)[j]? = some u → w.cell? (a.add j) = some u := by
  obtain ⟨A, c', e, e0, -, f⟩ := h
  simp only [Value.slice.injEq] at e
  obtain ⟨rfl, -, -⟩ := e
  intro j u hj
  have hj2 : j < l.length := by
    have := (List.getElem?_eq_some_iff.1 hj).1
    rwa [u32s_length] at this
  obtain ⟨a', e1, -, -, e4⟩ := f j hj2
  simp only [Option.some.injEq] at e1
  subst e1
  rw [e4, ← hj]
  simp [u32s, hj2]
theorem OwnN.onto {base k : Nat} {w2 : World} {v2 : Value} {L M : List Nat} (h1 : w2.ownsRow base 107 1 v2 (L.length + k) (u32s L ++ u32s M)) (hk : k = M.length) : OwnN base w2 v2 (L ++ M) := by
  subst hk
  unfold OwnN
  rw [u32s_append, List.length_append]
  exact h1
end Go.Proofs.YtbilnomafloopaaGreat

namespace Go.Proofs.YtbilnomafloopaaGreat
set_option maxRecDepth 100000
open Go.ChangeShapes Go.WideShapes Go.ChangeAt Go.RowKit
set_option linter.unusedVariables false
set_option linter.unusedSimpArgs false
set_option maxRecDepth 100000
/-- Pieces rise by their numbers. -/
def riseP (l : List Pce) : Prop := ∀ i (h : i + 1 < l.length), (l[i]'(by omega)).n < l[i + 1].n
theorem OwnN.form {base : Nat} {w : World} {v : Value} {l : List Nat} (h : OwnN base w v l) : ∃ A c, v = .slice A l.length c := by
  rcases h.2 with ⟨e, h0⟩ | ⟨g, cap, cur, e, _⟩
  · exact ⟨none, 0, by rw [e, h0]⟩
  · exact ⟨_, _, e⟩
end Go.Proofs.YtbilnomafloopaaGreat

namespace Go.Proofs.YtbilnomafloopaaGreat
set_option maxRecDepth 100000
open Go.ChangeShapes Go.WideShapes Go.ChangeAt Go.RowKit
set_option linter.unusedVariables false
set_option linter.unusedSimpArgs false
set_option maxRecDepth 100000
/-- The octets of the parts that pieces name, one behind the other. -/
noncomputable def catB (L : List Prt) (l : List Pce) : List UInt8 := l.flatMap fun x => bl (partD L x.n)
end Go.Proofs.YtbilnomafloopaaGreat

namespace Go.Proofs.YtbilnomafloopaaGreat
set_option maxRecDepth 100000
open Go.ChangeShapes Go.WideShapes Go.ChangeAt Go.RowKit
set_option linter.unusedVariables false
set_option linter.unusedSimpArgs false
set_option maxRecDepth 100000
def idxC (l : List Pce) (f : Pce → Bool) : Int := match l.findIdx? f with
  | some i => (i : Int)
  | none => -1
end Go.Proofs.YtbilnomafloopaaGreat

namespace Go.Proofs.YtbilnomafloopaaGreat
set_option maxRecDepth 100000
open Go.ChangeShapes Go.WideShapes Go.ChangeAt Go.RowKit
set_option linter.unusedVariables false
set_option linter.unusedSimpArgs false
set_option maxRecDepth 100000
/-- What Whole comes to: the octets, the tag, the error's number. -/
inductive WholeC (u : Upl) (l : List Pce) : List UInt8 → List UInt8 → Nat → Prop
  | arg : ¬ (okUp u ∧ 1 ≤ l.length) → WholeC u l [] [] 1
  | order : okUp u → 1 ≤ l.length → ¬ riseP l → WholeC u l [] [] 9
  | none : okUp u → 1 ≤ l.length → riseP l → l.any (lackB u.L) = true → WholeC u l [] [] 4
  | short : okUp u → 1 ≤ l.length → riseP l → l.any (lackB u.L) = false → (l.take (l.length - 1)).any (lackO u.L) = true → WholeC u l [] [] 3
  | large : okUp u → 1 ≤ l.length → riseP l → l.any (lackB u.L) = false → (l.take (l.length - 1)).any (lackO u.L) = false → 2000 < (catB u.L l).length → WholeC u l [] [] 6
  | yes : okUp u → 1 ≤ l.length → riseP l → l.any (lackB u.L) = false → (l.take (l.length - 1)).any (lackO u.L) = false → ¬ 2000 < (catB u.L l).length → WholeC u l (catB u.L l) (manyP (l.map (·.tag))) 0
theorem OwnN.low {base b2 : Nat} {w : World} {v : Value} {l : List Nat} (h : OwnN base w v l) (k : b2 ≤ base) : OwnN b2 w v l := by
  rcases h.2 with ⟨rfl, h0⟩ | ⟨g, cap, cur, rfl, hb, r⟩
  · exact ⟨h.1, .inl ⟨rfl, h0⟩⟩
  · exact ⟨h.1, .inr ⟨g, cap, cur, rfl, by omega, r⟩⟩
end Go.Proofs.YtbilnomafloopaaGreat

namespace Go.Proofs.YtbilnomafloopaaGreat
set_option maxRecDepth 100000
open Go.ChangeShapes Go.WideShapes Go.ChangeAt Go.RowKit
set_option linter.unusedVariables false
set_option linter.unusedSimpArgs false
def noS : ByteArray := ⟨#[]⟩
def topB (b : Bkt) : Nat := if b.st = 0 then 0 else b.last
def okNumE (l : List Ent) (m : Nat) : Prop := ∀ e ∈ l, ∀ x ∈ e.L, x.id ≤ m
def okNumU (l : List Upl) (m : Nat) : Prop := ∀ u ∈ l, u.id ≤ m
def okNum (b : Bkt) : Prop := okNumE b.L (topB b) ∧ okNumU b.U b.last
def octB (b : Bkt) : Nat := octE b.L + sizU b.U
def okB (b : Bkt) : Prop := bucketO b.name = true ∧ (0 ≤ b.st ∧ b.st ≤ 2) ∧ b.last ≤ 281474976710655 ∧ okI b.L ∧ okUps b.U ∧ okNum b ∧ octB b ≤ 20000
/-- A bucket of which no number is out of its kind, and no list too long for the walk. -/
def smB (b : Bkt) : Prop := b.name.size ≤ 1000 ∧ Small b.L ∧ smL b.U ∧ b.last < 18446744073709551616 ∧ -9223372036854775808 ≤ b.st ∧ b.st ≤ 9223372036854775807
def GiveC (b : Bkt) (n : Nat) (d : Bkt) (m k : Nat) : Prop :=
  (281474976710655 ≤ b.last ∧ d = b ∧ m = n ∧ k = 6) ∨ (b.last < 281474976710655 ∧ d = { b with last := b.last + 1 } ∧ m = b.last + 1 ∧ k = 0)
def GivC (b : Bkt) (n : Nat) (key : ByteArray) (d : Bkt) (m k : Nat) : Prop :=
  (hasO 1 60 ko key = false ∧ d = b ∧ m = n ∧ k = 1) ∨ (hasO 1 60 ko key = true ∧ b.st ≠ 1 ∧ d = b ∧ m = n ∧ k = 0) ∨ (hasO 1 60 ko key = true ∧ b.st = 1 ∧ GiveC b n d m k)
def SetC (b : Bkt) (key : ByteArray) (M : List Ver → Nat → Prop) (d : Bkt) (k : Nat) : Prop :=
  ∃ l e, M l e ∧ ((e ≠ 0 ∧ d = b ∧ k = e) ∨ (e = 0 ∧ ∃ L j, PutI b.L key l L j ∧ d = { b with L := L } ∧ k = j))
def WPut (b : Bkt) (n : Nat) (key data : ByteArray) (tm : Int) (d : Bkt) (m k : Nat) : Prop :=
  ∃ b1 m1 k1, GivC b n key b1 m1 k1 ∧ ((k1 ≠ 0 ∧ d = b1 ∧ m = m1 ∧ k = k1) ∨ (k1 = 0 ∧ m = m1 ∧ SetC b1 key (PutC (getE b1.L key) b1.st ⟨m1, data, false, tm⟩) d k))
def WDel (b : Bkt) (n : Nat) (key : ByteArray) (tm : Int) (d : Bkt) (m k : Nat) : Prop :=
  ∃ b1 m1 k1, GivC b n key b1 m1 k1 ∧ ((k1 ≠ 0 ∧ d = b1 ∧ m = m1 ∧ k = k1) ∨ (k1 = 0 ∧ m = m1 ∧ SetC b1 key (DelC (getE b1.L key) b1.st m1 tm) d k))
def WDrop (b : Bkt) (key : ByteArray) (id : Nat) (d : Bkt) (k : Nat) : Prop :=
  (hasO 1 60 ko key = false ∧ d = b ∧ k = 1) ∨ (hasO 1 60 ko key = true ∧ SetC b key (DropC (getE b.L key) id) d k)
def isSt (s : Int) : Bool := decide (0 ≤ s) && decide (s ≤ 2)
def WTurn (b : Bkt) (s : Int) (d : Bkt) (k : Nat) : Prop :=
  (isSt s = false ∧ d = b ∧ k = 1) ∨ (isSt s = true ∧ s = 0 ∧ b.st ≠ 0 ∧ d = b ∧ k = 8) ∨ (isSt s = true ∧ (s = 0 → b.st = 0) ∧ d = { b with st := s } ∧ k = 0)
def WBeg (b : Bkt) (n : Nat) (key : ByteArray) (d : Bkt) (m k : Nat) : Prop :=
  (hasO 1 60 ko key = false ∧ d = b ∧ m = n ∧ k = 1) ∨ (hasO 1 60 ko key = true ∧ ∃ b1 m1 k1, GiveC b n b1 m1 k1 ∧ ((k1 ≠ 0 ∧ d = b1 ∧ m = m1 ∧ k = k1) ∨ (k1 = 0 ∧ m = m1 ∧ ∃ U, BeginC b1.U m1 key U k ∧ d = { b1 with U := U })))
def WLay (b : Bkt) (id : Nat) (p : Prt) (d : Bkt) (t k : Nat) : Prop := ∃ U, LayC b.U id p U t k ∧ d = { b with U := U }
def WAbo (b : Bkt) (id : Nat) (d : Bkt) (k : Nat) : Prop := ∃ U, AbortC b.U id U k ∧ d = { b with U := U }
def WWho (b : Bkt) (n : Nat) (id : Nat) (P : List Pce) (tm : Int) (d : Bkt) (m : Nat) (s : ByteArray) (k : Nat) : Prop :=
  ∃ u e, FindC b.U id u e ∧ ((e ≠ 0 ∧ d = b ∧ m = n ∧ s = noS ∧ k = e) ∨ (e = 0 ∧ ∃ S T f, WholeC u P S T f ∧ ((f ≠ 0 ∧ d = b ∧ m = n ∧ s = noS ∧ k = f) ∨
    (f = 0 ∧ s = mk T ∧ ∃ U g, AbortC b.U id U g ∧ WPut { b with U := U } n u.key (mk S) tm d m k))))
/-- What a change comes to: the bucket, a number, a tag, a text, and the error's number. -/
def FinC (b : Bkt) (R : Bkt → Nat → Nat → ByteArray → Nat → Prop) (d : Bkt) (n t : Nat) (s : ByteArray) (k : Nat) : Prop :=
  (¬ okB b ∧ (d = b ∧ n = 0 ∧ t = 0 ∧ s = noS) ∧ k = 1) ∨ (okB b ∧ ∃ d1 n1 t1 s1 k1, R d1 n1 t1 s1 k1 ∧
    ((k1 ≠ 0 ∧ (d = b ∧ n = 0 ∧ t = 0 ∧ s = noS) ∧ k = k1) ∨ (k1 = 0 ∧ 20000 < octB d1 ∧ (d = b ∧ n = 0 ∧ t = 0 ∧ s = noS) ∧ k = 6) ∨ (k1 = 0 ∧ octB d1 ≤ 20000 ∧ (d = d1 ∧ n = n1 ∧ t = t1 ∧ s = s1) ∧ k = 0)))
def PutR (b : Bkt) (key data : ByteArray) (tm : Int) : Bkt → Nat → Nat → ByteArray → Nat → Prop := fun d n t s k => WPut b 0 key data tm d n k ∧ t = 0 ∧ s = noS
def DelR (b : Bkt) (key : ByteArray) (tm : Int) : Bkt → Nat → Nat → ByteArray → Nat → Prop := fun d n t s k => WDel b 0 key tm d n k ∧ t = 0 ∧ s = noS
def DropR (b : Bkt) (key : ByteArray) (id : Nat) : Bkt → Nat → Nat → ByteArray → Nat → Prop := fun d n t s k => WDrop b key id d k ∧ n = 0 ∧ t = 0 ∧ s = noS
def TurnR (b : Bkt) (st : Int) : Bkt → Nat → Nat → ByteArray → Nat → Prop := fun d n t s k => WTurn b st d k ∧ n = 0 ∧ t = 0 ∧ s = noS
def BegR (b : Bkt) (key : ByteArray) : Bkt → Nat → Nat → ByteArray → Nat → Prop := fun d n t s k => WBeg b 0 key d n k ∧ t = 0 ∧ s = noS
def LayR (b : Bkt) (id : Nat) (p : Prt) : Bkt → Nat → Nat → ByteArray → Nat → Prop := fun d n t s k => WLay b id p d t k ∧ n = 0 ∧ s = noS
def AboR (b : Bkt) (id : Nat) : Bkt → Nat → Nat → ByteArray → Nat → Prop := fun d n t s k => WAbo b id d k ∧ n = 0 ∧ t = 0 ∧ s = noS
def WhoR (b : Bkt) (id : Nat) (P : List Pce) (tm : Int) : Bkt → Nat → Nat → ByteArray → Nat → Prop := fun d n t s k => WWho b 0 id P tm d n s k ∧ t = 0
end Go.Proofs.YtbilnomafloopaaGreat

namespace Go.Proofs.YtbilnomafloopaaGreat
set_option maxRecDepth 100000
open Go.ChangeShapes Go.WideShapes Go.ChangeAt Go.RowKit
set_option linter.unusedVariables false
set_option linter.unusedSimpArgs false
/-- What is known of each entry of a row: its versions lie below base. -/
def Lows (base : Nat) (w : World) (P : List (Ent × Value)) : Prop := ∀ p ∈ P, p.1.key.size ≤ maxLen ∧ p.1.L.length ≤ maxLen ∧ Vers w base p.2 p.1.L
theorem Lows.below {base : Nat} {w w' : World} {P : List (Ent × Value)} (h : Lows base w P) (k : Below base w w') : Lows base w' P := fun p hp => ⟨(h p hp).1, (h p hp).2.1, (h p hp).2.2.below k⟩
/-- A slice that is only read, with no room behind it, or a row of the call's own: what lies in it lies below base. -/
def Cat (base : Nat) (w : World) (v : Value) (l : List Ent) : Prop :=
  (Ents w base v l ∧ ∃ A, v = .slice A l.length l.length) ∨ (∃ P, P.map (·.1) = l ∧ RowE base w v P ∧ Lows base w P)
theorem Cat.read {base : Nat} {w w' : World} {A : Option Addr} {n : Nat} {l : List Ent} (h : Ents w base (.slice A n n) l) (k : Below base w w') (hn : l.length = n) : Cat base w' (.slice A n n) l := .inl ⟨h.below k, A, by rw [hn]⟩
theorem Cat.ents {base : Nat} {w : World} {v : Value} {l : List Ent} (h : Cat base w v l) (hb : base ≤ w.heap.size) : Ents w w.heap.size v l := by
  rcases h with ⟨h, -⟩ | ⟨P, rfl, r, f⟩
  · exact h.more hb
  · exact r.ents hb fun p hp => ⟨(f p hp).1, (f p hp).2.1, (f p hp).2.2.more hb⟩
def oneK (key : ByteArray) (m : List Ver) : List Ent := if m = [] then [] else [⟨key, m⟩]
end Go.Proofs.YtbilnomafloopaaGreat

namespace Go.Proofs.YtbilnomafloopaaGreat
set_option maxRecDepth 100000
open Go.ChangeShapes Go.WideShapes Go.ChangeAt Go.RowKit
set_option linter.unusedVariables false
set_option linter.unusedSimpArgs false
/-- The keys rise. -/
def Rise (l : List Ent) : Prop := l.Pairwise (fun x y => ltB x.key y.key = true)
theorem okI_rise {l : List Ent} (h : okI l) : Rise l := by
  refine List.pairwise_iff_getElem.2 fun i j hi hj hij => ?_
  obtain ⟨d, rfl⟩ : ∃ d, j = i + d + 1 := ⟨j - i - 1, by omega⟩
  induction d with
  | zero => exact (h.2 (i + 1) hj).2.2.2 i rfl
  | succ d ih => exact ltB_trans (ih (by omega) (by omega)) ((h.2 (i + (d + 1) + 1) hj).2.2.2 (i + d + 1) rfl)
end Go.Proofs.YtbilnomafloopaaGreat

namespace Go.Proofs.YtbilnomafloopaaGreat
set_option maxRecDepth 100000
open Go.ChangeShapes Go.WideShapes Go.ChangeAt Go.RowKit
set_option linter.unusedVariables false
set_option linter.unusedSimpArgs false
end Go.Proofs.YtbilnomafloopaaGreat

namespace Go.Proofs.YtbilnomafloopaaGreat
set_option maxRecDepth 100000
open Go.ChangeShapes Go.WideShapes Go.ChangeAt Go.RowKit
set_option linter.unusedVariables false
set_option linter.unusedSimpArgs false
theorem fewE_len (l : List Ent) : (fewE l).length ≤ 61 := by rw [fewE, List.length_map, List.length_take]; omega
theorem fewV_data {l : List Ver} : ∀ x ∈ fewV l, x.data.size ≤ 2001 := by
  intro x hx
  rw [fewV, List.mem_map] at hx
  obtain ⟨y, -, rfl⟩ := hx
  exact oneV_size y
theorem fewE_mem {l : List Ent} {e : Ent} (h : e ∈ fewE l) : ∃ y ∈ l, e = oneE y := by
  rw [fewE, List.mem_map] at h
  obtain ⟨y, hy, rfl⟩ := h
  exact ⟨y, List.mem_of_mem_take hy, rfl⟩
/-- What is looked at is small. -/
def Tiny (e : Ent) : Prop := e.key.size ≤ 80 ∧ e.L.length ≤ 21 ∧ ∀ x ∈ e.L, x.data.size ≤ 2001
theorem oneE_tiny (e : Ent) : Tiny (oneE e) := ⟨fewS_size _, fewV_len _, fewV_data⟩
theorem fewE_tiny (l : List Ent) : ∀ e ∈ fewE l, Tiny e := by
  intro e h
  obtain ⟨y, -, rfl⟩ := fewE_mem h
  exact oneE_tiny y
theorem tiny_small {l : List Ent} (h : l.length ≤ 1000) (k : ∀ e ∈ l, Tiny e) : Small l := ⟨h, fun e he => ⟨by have := (k e he).1; omega, by have := (k e he).2.1; omega, fun x hx => by have := (k e he).2.2 x hx; omega⟩⟩
theorem okI_iff {l : List Ent} : okI l ↔ l.length ≤ 60 ∧ Rise l ∧ ∀ e ∈ l, hasO 1 60 ko e.key = true ∧ 0 < e.L.length ∧ okP e.L := by
  constructor
  · intro h
    refine ⟨h.1, okI_rise h, fun e he => ?_⟩
    obtain ⟨k, hk, rfl⟩ := List.getElem_of_mem he
    obtain ⟨a, b, c, -⟩ := h.2 k hk
    exact ⟨a, b, c⟩
  · rintro ⟨h1, h2, h3⟩
    refine ⟨h1, fun i hi => ?_⟩
    obtain ⟨a, b, c⟩ := h3 _ (List.getElem_mem hi)
    exact ⟨a, b, c, fun j hj => (List.pairwise_iff_getElem.1 h2) j i (by omega) hi (by omega)⟩
end Go.Proofs.YtbilnomafloopaaGreat

namespace Go.Proofs.YtbilnomafloopaaGreat
set_option maxRecDepth 100000
open Go.ChangeShapes Go.WideShapes Go.ChangeAt Go.RowKit
set_option linter.unusedVariables false
set_option linter.unusedSimpArgs false
set_option maxRecDepth 100000
theorem okL_iff {L : List Prt} : okL L ↔ (∀ x ∈ L, mayP x = true) ∧ L.Pairwise (fun x y => x.n < y.n) := by
  constructor
  · intro h
    refine ⟨fun x hx => ?_, List.pairwise_iff_getElem.2 fun i j hi hj hij => okL_lt h i j hij hj⟩
    obtain ⟨i, hi, rfl⟩ := List.getElem_of_mem hx
    exact (h i hi).1
  · rintro ⟨h1, h2⟩ i hi
    exact ⟨h1 _ (List.getElem_mem hi), fun j hj => List.pairwise_iff_getElem.1 h2 j i (by omega) hi (by omega)⟩
theorem okUps_iff {l : List Upl} : okUps l ↔ l.length ≤ 10 ∧ (∀ x ∈ l, okUp x) ∧ l.Pairwise (fun x y => x.id < y.id) := by
  constructor
  · intro h
    refine ⟨h.1, fun x hx => ?_, List.pairwise_iff_getElem.2 fun i j hi hj hij => okUps_lt h i j hij hj⟩
    obtain ⟨i, hi, rfl⟩ := List.getElem_of_mem hx
    exact (h.2 i hi).1
  · rintro ⟨h0, h1, h2⟩
    exact ⟨h0, fun i hi => ⟨h1 _ (List.getElem_mem hi), fun j hj => List.pairwise_iff_getElem.1 h2 j i (by omega) hi (by omega)⟩⟩
/-- The one upload of the examples. -/
def kK : ByteArray := ⟨#[107]⟩
def tH : ByteArray := ⟨#[104, 101, 108, 108, 111]⟩
def tW : ByteArray := ⟨#[119, 111, 114, 108, 100]⟩
def tF : ByteArray := ⟨#[102, 111, 117, 114]⟩
def P2 : List Prt := [⟨2, tH⟩]
def P12 : List Prt := [⟨1, tW⟩, ⟨2, tH⟩]
def P123 : List Prt := [⟨1, tW⟩, ⟨2, tH⟩, ⟨3, tF⟩]
def P123' : List Prt := [⟨1, tF⟩, ⟨2, tH⟩, ⟨3, tF⟩]
theorem w2 : withP [] ⟨2, tH⟩ = P2 := rfl
theorem w12 : withP P2 ⟨1, tW⟩ = P12 := by simp [withP, P2, P12]
def sWH : ByteArray := ⟨#[119, 111, 114, 108, 100, 104, 101, 108, 108, 111]⟩
end Go.Proofs.YtbilnomafloopaaGreat

namespace Go.Proofs.YtbilnomafloopaaGreat
set_option maxRecDepth 100000
open Go.ChangeShapes Go.WideShapes Go.ChangeAt Go.RowKit
set_option linter.unusedVariables false
/-- x may stand ahead of y, whatever stands between. -/
def ahd (x y : Ver) : Prop := y.tm ≤ x.tm ∧ pairBad x y = false
theorem okP_iff {l : List Ver} : okP l ↔ l.length ≤ 20 ∧ (∀ x ∈ l, mayV x = true) ∧ l.Pairwise ahd := by
  constructor
  · intro h
    refine ⟨h.1, fun x hx => ?_, ?_⟩
    · obtain ⟨k, hk, rfl⟩ := List.getElem_of_mem hx
      exact (h.2 k).1 hk
    · rw [List.pairwise_iff_getElem]
      intro i j hi hj hij
      refine ⟨?_, (h.2 j).2.2 i hj hij hi⟩
      obtain ⟨d, rfl⟩ : ∃ d, j = i + d + 1 := ⟨j - i - 1, by omega⟩
      induction d with
      | zero => have := (h.2 (i + 1)).2.1 i rfl hj; simpa using this
      | succ d ih =>
        have h1 := ih (by omega) (by omega)
        have h2 := (h.2 (i + (d + 1) + 1)).2.1 (i + d + 1) (by omega) hj
        omega
  · rintro ⟨h1, h2, h3⟩
    rw [List.pairwise_iff_getElem] at h3
    refine ⟨h1, fun i => ⟨fun h => h2 _ (List.getElem_mem h), fun j hj h => ?_, fun k hi hk hk' => (h3 k i hk' hi hk).2⟩⟩
    have := (h3 j i (by omega) h (by omega)).1
    omega
/-- The versions of the chapter's examples. -/
def x1 : Ver := ⟨1, ⟨#[97]⟩, false, 0⟩
def x2 : Ver := ⟨2, ⟨#[98]⟩, false, 0⟩
def y1 : Ver := ⟨0, ⟨#[97]⟩, false, 0⟩
def y2 : Ver := ⟨0, ⟨#[98]⟩, false, 0⟩
def m3 : Ver := markV 3 0
end Go.Proofs.YtbilnomafloopaaGreat

namespace Go.Proofs.YtbilnomafloopaaGreat
set_option maxRecDepth 100000
open Go.ChangeShapes Go.WideShapes Go.ChangeAt Go.RowKit
set_option linter.unusedVariables false
set_option linter.unusedSimpArgs false
/-- All of a bucket that may be, but for how many octets it has. -/
def okQ (b : Bkt) : Prop := bucketO b.name = true ∧ (0 ≤ b.st ∧ b.st ≤ 2) ∧ b.last ≤ 281474976710655 ∧ okI b.L ∧ okUps b.U ∧ okNum b
end Go.Proofs.YtbilnomafloopaaGreat

namespace Go.Proofs.YtbilnomafloopaaGreat
set_option maxRecDepth 100000
open Go.ChangeShapes Go.WideShapes Go.ChangeAt Go.RowKit
set_option linter.unusedVariables false
set_option linter.unusedSimpArgs false
/-- A version of a bucket was made behind a time. -/
def lateB (b : Bkt) (now : Int) : Prop := ∃ e ∈ b.L, ∃ v ∈ e.L, now < v.tm
/-- The name ahead of place i. -/
def lastD (l : List Bkt) : Nat → ByteArray
  | 0 => ⟨#[]⟩
  | i + 1 => match l[i]? with | some b => b.name | none => ⟨#[]⟩
theorem lastD_succ (l : List Bkt) (i : Nat) (h : i < l.length) : lastD l (i + 1) = l[i].name := by
  simp only [lastD, List.getElem?_eq_getElem h]
/-- Bucket i may stand where it stands. -/
def stepD (d : Dep) (i : Nat) : Prop := ∀ h : i < d.L.length, okB d.L[i] ∧ ltB (lastD d.L i) d.L[i].name = true ∧ ¬ lateB d.L[i] d.now
/-- A depot that may be. -/
def okD (d : Dep) : Prop := (0 ≤ d.now ∧ d.now ≤ 1099511627775) ∧ d.L.length ≤ 6 ∧ ∀ i, stepD d i
theorem okD_all {d : Dep} (h : okD d) : ∀ b ∈ d.L, okB b ∧ ¬ lateB b d.now := by
  intro b hb
  obtain ⟨i, hi, rfl⟩ := List.getElem_of_mem hb
  exact ⟨(h.2.2 i hi).1, (h.2.2 i hi).2.2⟩
theorem okD_rise {d : Dep} (h : okD d) : d.L.Pairwise fun b c => ltB b.name c.name = true := by
  rw [List.pairwise_iff_getElem]
  intro i j hi hj hij
  obtain ⟨k, rfl⟩ : ∃ k, j = i + k + 1 := ⟨j - i - 1, by omega⟩
  induction k with
  | zero => have := (h.2.2 (i + 1) hj).2.1; rw [lastD_succ _ _ hi] at this; exact this
  | succ k ih =>
    have h1 := ih (by omega) (by omega)
    have h2 := (h.2.2 (i + (k + 1) + 1) hj).2.1
    rw [lastD_succ _ _ (by omega)] at h2
    exact ltB_trans h1 h2
theorem okD_apart {d : Dep} (h : okD d) : d.L.Pairwise fun b c => b.name ≠ c.name := List.Pairwise.imp (fun h => ltB_ne h) (okD_rise h)
end Go.Proofs.YtbilnomafloopaaGreat

namespace Go.Proofs.YtbilnomafloopaaGreat
set_option maxRecDepth 100000
open Go.ChangeShapes Go.WideShapes Go.ChangeAt Go.RowKit
set_option linter.unusedVariables false
set_option linter.unusedSimpArgs false
theorem hasO_nl {lo hi : Nat} {p : Int → Bool} {s : ByteArray} (h : hasO lo hi p s = true) (hp : p 10 = false) : noNl s := by
  intro k
  unfold hasO at h
  simp only [Bool.and_eq_true] at h
  have h2 := h.2
  unfold allO at h2
  rw [List.all_eq_true] at h2
  have h3 := h2 10 k
  rw [show ((10 : UInt8).toNat : Int) = 10 from rfl, hp] at h3
  cases h3
theorem bucketO_has {s : ByteArray} (h : bucketO s = true) : hasO 3 20 bo s = true := by
  unfold bucketO at h
  simp only [Bool.and_eq_true] at h
  exact h.1.1
theorem ahd_ne {x y : Ver} (h : ahd x y) : x.id ≠ y.id := by
  intro e
  have h2 := h.2
  unfold pairBad at h2
  rw [e] at h2
  by_cases h0 : y.id = 0
  · rw [if_pos h0] at h2; simp [h0] at h2
  · rw [if_neg h0, if_neg h0] at h2; simp at h2
theorem okB_tiny {b : Bkt} (h : okB b) : tinyB b := by
  obtain ⟨h1, h2, h3, h4, h5, h6, -⟩ := h
  have hs := hasO_size (bucketO_has h1)
  obtain ⟨e1, -, e3⟩ := okI_iff.1 h4
  obtain ⟨u1, u2, -⟩ := okUps_iff.1 h5
  refine ⟨by omega, h2.1, by omega, by omega, e1, by omega, fun e he => ?_, fun u hu => ?_⟩
  · obtain ⟨k1, -, k3⟩ := e3 e he
    have ks := hasO_size k1
    obtain ⟨p0, p1, -⟩ := okP_iff.1 k3
    refine ⟨by omega, by omega, fun x hx => ?_⟩
    have m := p1 x hx
    unfold mayV at m
    simp only [Bool.and_eq_true, decide_eq_true_eq] at m
    obtain ⟨⟨⟨⟨m1, m2⟩, -⟩, m4⟩, m5⟩ := m
    exact ⟨by omega, by omega, by omega, by omega⟩
  · obtain ⟨k1, k2, k3⟩ := u2 u hu
    have ki := okUp_id (u2 u hu)
    unfold mayB at k1
    simp only [Bool.and_eq_true] at k1
    have ks := hasO_size k1.2
    refine ⟨by omega, by omega, k2, fun p hp => ?_⟩
    have m := mayP_iff.1 ((okL_iff.1 k3).1 p hp)
    exact ⟨by omega, by omega, by omega⟩
theorem okB_nl {b : Bkt} (h : okB b) : nlB b := by
  obtain ⟨h1, -, -, h4, -⟩ := h
  refine ⟨hasO_nl (bucketO_has h1) (by decide), fun e he => ?_⟩
  obtain ⟨-, -, e3⟩ := okI_iff.1 h4
  exact hasO_nl (e3 e he).1 (by decide)
theorem okB_one {b : Bkt} (h : okB b) : oneB b := by
  obtain ⟨h1, -, -, h4, h5, -⟩ := h
  obtain ⟨-, e2, e3⟩ := okI_iff.1 h4
  obtain ⟨-, u2, u3⟩ := okUps_iff.1 h5
  refine ⟨List.Pairwise.imp (fun h => ltB_ne h) e2, fun e he => List.Pairwise.imp (fun h => ahd_ne h) (okP_iff.1 (e3 e he).2.2).2.2, List.Pairwise.imp (fun h => by omega) u3, fun u hu => ?_⟩
  obtain ⟨-, -, k3⟩ := u2 u hu
  exact List.Pairwise.imp (fun h => by omega) (okL_iff.1 k3).2
theorem okD_pair {d : Dep} (h : okD d) : (depI d).Pairwise fun x y => x.n ≠ y.n :=
  depI_pair (fun b hb => okB_tiny (okD_all h b hb).1) (fun b hb => okB_nl (okD_all h b hb).1) (fun b hb => okB_one (okD_all h b hb).1) (okD_apart h)
theorem sumD_le {α : Type} (l : List α) (f : α → Nat) (m : Nat) (h : ∀ x ∈ l, f x ≤ m) : (l.map f).sum ≤ l.length * m := by
  induction l with
  | nil => simp
  | cons x r ih =>
    have h1 := h x (by simp)
    have h2 := ih fun y hy => h y (List.mem_cons_of_mem _ hy)
    rw [List.map_cons, List.sum_cons, List.length_cons, Nat.succ_mul]; omega
theorem bktI_few {b : Bkt} (h : tinyB b) (hU : b.U.length ≤ 10) : (bktI b).length ≤ 2200 := by
  obtain ⟨-, -, -, -, hL, -, hE, hV⟩ := h
  have h1 : (b.L.flatMap (entI b.name)).length ≤ 60 * 30 := by
    rw [List.length_flatMap]
    refine Nat.le_trans (sumD_le b.L _ 30 fun e he => ?_) (Nat.mul_le_mul_right _ hL)
    rw [entI_len]; exact (hE e he).2.1
  have h2 : (b.U.flatMap (uplI b.name)).length ≤ 10 * 31 := by
    rw [List.length_flatMap]
    refine Nat.le_trans (sumD_le b.U _ 31 fun u hu => ?_) (Nat.mul_le_mul_right _ hU)
    have := (hV u hu).2.2.1
    unfold uplI
    rw [List.length_cons, List.length_map]; omega
  unfold bktI
  rw [List.length_cons, List.length_append]; omega
theorem okD_few {d : Dep} (h : okD d) : (d.L.flatMap bktI).length ≤ 13200 := by
  rw [List.length_flatMap]
  have h1 := sumD_le d.L (fun b => (bktI b).length) 2200 fun b hb => bktI_few (okB_tiny (okD_all h b hb).1) (okUps_iff.1 (okD_all h b hb).1.2.2.2.2.1).1
  have h2 := Nat.mul_le_mul_right 2200 h.2.1
  omega
end Go.Proofs.YtbilnomafloopaaGreat

namespace Go.Proofs.YtbilnomafloopaaGreat
set_option maxRecDepth 100000
open Go.ChangeShapes Go.WideShapes Go.ChangeAt Go.RowKit Go.Shelf
set_option linter.unusedVariables false
set_option linter.unusedSimpArgs false
end Go.Proofs.YtbilnomafloopaaGreat

namespace Go.Proofs.YtbilnomafloopaaGreat
set_option maxRecDepth 100000
open Go.ChangeShapes Go.WideShapes Go.ChangeAt Go.RowKit Go.Shelf
set_option linter.unusedVariables false
set_option linter.unusedSimpArgs false
set_option maxHeartbeats 4000000 in
theorem isState_any (w : World) (s : Int) :
    Calls Tryz.prog 100 #[.int .i64 s] w fun e w' => e = .returned (.bool (isSt s)) ∧ w' = w := by
  have hs : (s = 0 ∧ isSt s = true) ∨ (s = 1 ∧ isSt s = true) ∨ (s = 2 ∧ isSt s = true) ∨ ((s == 0) = false ∧ (s == 1) = false ∧ (s == 2) = false ∧ isSt s = false) := by
    by_cases h0 : s = 0
    · subst h0; exact .inl ⟨rfl, rfl⟩
    · by_cases h1 : s = 1
      · subst h1; exact .inr (.inl ⟨rfl, rfl⟩)
      · by_cases h2 : s = 2
        · subst h2; exact .inr (.inr (.inl ⟨rfl, rfl⟩))
        · refine .inr (.inr (.inr ⟨by simpa using h0, by simpa using h1, by simpa using h2, ?_⟩))
          simp only [isSt, Bool.and_eq_false_iff, decide_eq_false_iff_not]
          omega
  rcases hs with ⟨rfl, h⟩ | ⟨rfl, h⟩ | ⟨rfl, h⟩ | ⟨h0, h1, h2, h⟩
  · rw [h]; go_enter Tryz.func100, Tryz.ntmps100
    go_wp2
    go_ret
    exact ⟨rfl, rfl⟩
  · rw [h]; go_enter Tryz.func100, Tryz.ntmps100
    go_wp2
    go_ret
    exact ⟨rfl, rfl⟩
  · rw [h]; go_enter Tryz.func100, Tryz.ntmps100
    go_wp2
    go_ret
    exact ⟨rfl, rfl⟩
  · rw [h]; clear h; go_enter Tryz.func100, Tryz.ntmps100
    go_wp2
    go_ret
    exact ⟨rfl, rfl⟩
end Go.Proofs.YtbilnomafloopaaGreat

namespace Go.Proofs.YtbilnomafloopaaGreat
set_option maxRecDepth 100000
open Go.ChangeShapes Go.WideShapes Go.ChangeAt Go.RowKit Go.Shelf
set_option linter.unusedVariables false
set_option linter.unusedSimpArgs false
end Go.Proofs.YtbilnomafloopaaGreat

namespace Go.Proofs.YtbilnomafloopaaGreat
set_option maxRecDepth 100000
open Go.ChangeShapes Go.WideShapes Go.ChangeAt Go.RowKit Go.Shelf
set_option linter.unusedVariables false
set_option linter.unusedSimpArgs false
end Go.Proofs.YtbilnomafloopaaGreat

namespace Go.Proofs.YtbilnomafloopaaGreat
set_option maxRecDepth 100000
open Go.ChangeShapes Go.WideShapes Go.ChangeAt Go.RowKit Go.Shelf
set_option linter.unusedVariables false
set_option linter.unusedSimpArgs false
/-- An index of which no chain is too long for the walk. -/
def smE (l : List Ent) : Prop := Small l ∧ ∀ e ∈ l, e.L.length ≤ 900
end Go.Proofs.YtbilnomafloopaaGreat

namespace Go.Proofs.YtbilnomafloopaaGreat
set_option maxRecDepth 100000
open Go.ChangeShapes Go.WideShapes Go.ChangeAt Go.RowKit
set_option linter.unusedVariables false
set_option linter.unusedSimpArgs false
section
variable {P : Program} {ops : Array Oper} {Z : Exit → Act → World → Prop} {md : Region.Mode} {F : World → Prop} {st : Nat}
/-- Till operation st has come up, F holds behind each operation. -/
def Till (P : Program) (md : Region.Mode) (ops : Array Oper) (Z : Exit → Act → World → Prop) (F : World → Prop) (st : Nat) : Nat → Array Bool → Act → World → Prop
  | 0, up, a, w => Region.ready md ops up = [] ∧ Z .normal a w
  | k + 1, up, a, w => (Region.ready md ops up = [] → Z .normal a w) ∧ ∀ i ∈ Region.ready md ops up, wpOp P ops Z i (fun b x => ((up.setIfInBounds i true).getD st true = false → F x) ∧ Till P md ops Z F st k (up.setIfInBounds i true) b x) a w
theorem Till.any : ∀ (k : Nat) (up : Array Bool) (a : Act) (w : World), Till P md ops Z F st k up a w → wpAny P md ops Z k up a w
  | 0, _, _, _, h => h
  | k + 1, _, _, _, h => ⟨h.1, fun i hi => wpOp_mono (fun b x g => Till.any k _ b x g.2) (h.2 i hi)⟩
/-- Operation st waits for operation i. -/
def waitsB (ops : Array Oper) (md : Region.Mode) (st i : Nat) : Bool := match ops[st]? with
  | some o => o.after.any fun e => Region.binds md e && e.on == i
  | none => false
theorem till_begin {id : Nat} {a : Act} {w : World} (hm : P.follows .mixedOrders = true) (hF : F w.drew) (h : F w.drew → Till P .any ops Z F st ops.size (Array.replicate ops.size false) a w.drew) : (Code.region id ops true).wp P Z a w :=
  wp_region_any hm (Till.any _ _ _ _ (h hF))
theorem Till.first {i : Nat} {o : Oper} {v : Value} (hi : ops[i]? = some o) (hsel : ∀ (j : Nat) (x : Oper) cs b, ops[j]? = some x → x.op ≠ .select cs b) (hwait : waitsB ops md st i = true)
    (hZ : ∀ c a w, Z (.panic c) (a.put o.dst v) w → Z (.panic c) a w) : ∀ (k : Nat) (up : Array Bool) (a : Act) (w : World), up.getD st true = false →
      (∀ j x, ops[j]? = some x → j ≠ i → up.getD j true = false → (∀ e ∈ x.after, Region.binds md e = true → e.on ≠ i) → o.apart ops x = true) →
      i ∈ Region.ready md ops up → YieldsIf P ops F o v a → F w → Till P md ops Z F st k (up.setIfInBounds i true) (a.put o.dst v) w → Till P md ops Z F st (k + 1) up a w := by
  have notYet : ∀ up : Array Bool, i ∈ Region.ready md ops up → ∀ j ∈ Region.ready md ops up, j ≠ i → ∀ x, ops[j]? = some x → ∀ e ∈ x.after, Region.binds md e = true → e.on ≠ i := by
    intro up hr j hj hne x hx e he hb heq
    obtain ⟨h0, -⟩ := mem_ready.1 hr
    obtain ⟨-, y, hy, hall⟩ := mem_ready.1 hj
    rw [hx] at hy
    cases hy
    have h1 := hall e he hb
    rw [heq] at h1
    by_cases hs : i < up.size
    · simp [hs] at h0 h1; rw [h0] at h1; cases h1
    · simp [Array.getElem?_eq_none (Nat.le_of_not_lt hs)] at h1
  have notSt : ∀ up : Array Bool, i ∈ Region.ready md ops up → ∀ j ∈ Region.ready md ops up, j ≠ i → j ≠ st := by
    intro up hr j hj hne e
    subst e
    obtain ⟨-, x, hx, -⟩ := mem_ready.1 hj
    unfold waitsB at hwait
    rw [hx] at hwait
    obtain ⟨e, he, hb⟩ := Array.any_eq_true'.1 hwait
    simp only [Bool.and_eq_true, beq_iff_eq] at hb
    exact notYet up hr _ hj hne x hx e he hb.1 hb.2
  intro k
  induction k with
  | zero =>
    intro up a w hst hfree hr hy hF H
    refine ⟨fun e => (by rw [e] at hr; cases hr), fun j hj => ?_⟩
    by_cases hji : j = i
    · subst hji; exact hy.wpOp hi hF ⟨fun _ => hF, H⟩
    · have := ready_mono hj hji
      rw [H.1] at this; cases this
  | succ k ih =>
    intro up a w hst hfree hr hy hF H
    refine ⟨fun e => (by rw [e] at hr; cases hr), fun j hj => ?_⟩
    by_cases hji : j = i
    · subst hji; exact hy.wpOp hi hF ⟨fun _ => hF, H⟩
    · obtain ⟨hjun, x, hx, -⟩ := mem_ready.1 hj
      have hjst := notSt up hr j hj hji
      have hup : (up.setIfInBounds j true).getD st true = false := by rw [getD_set_ne true hjst]; exact hst
      have hup2 : ((up.setIfInBounds i true).setIfInBounds j true).getD st true = false ∨ i = st := by
        by_cases his : i = st
        · exact .inr his
        · left; rw [getD_set_ne true hjst, getD_set_ne true his]; exact hst
      have step := wpOp_putIf hx (hfree j x hx hji hjun (notYet up hr j hj hji x hx)) (fun cs b => hsel i o cs b hi) (fun cs b => hsel j x cs b hx) hZ hy (H.2 j (ready_mono hj hji))
      have hfree' : ∀ m y, ops[m]? = some y → m ≠ i → (up.setIfInBounds j true).getD m true = false → (∀ e ∈ y.after, Region.binds md e = true → e.on ≠ i) → o.apart ops y = true := by
        intro m y hy2 hmi hun hno
        refine hfree m y hy2 hmi ?_ hno
        by_cases hjm : j = m
        · subst hjm; exact hjun
        · rwa [getD_set_ne true hjm] at hun
      refine wpOp_mono (fun b x' g => ?_) step
      obtain ⟨g1, g2, g3⟩ := g
      have hFx : F x' := by
        rcases hup2 with h | h
        · exact g2 h
        · exfalso
          subst h
          unfold waitsB at hwait
          rw [hi] at hwait
          obtain ⟨e, he, hb⟩ := Array.any_eq_true'.1 hwait
          simp only [Bool.and_eq_true, beq_iff_eq] at hb
          obtain ⟨h0, y, hy2, hall⟩ := mem_ready.1 hr
          rw [hi] at hy2
          cases hy2
          have h1 := hall e he hb.1
          rw [hb.2] at h1
          by_cases hs : i < up.size
          · simp [hs] at h0 h1; rw [h0] at h1; cases h1
          · simp [Array.getElem?_eq_none (Nat.le_of_not_lt hs)] at h1
      refine ⟨fun _ => hFx, ih (up.setIfInBounds j true) b x' hup hfree' (ready_mono hr (Ne.symm hji)) g1 hFx ?_⟩
      rw [Array.setIfInBounds_comm _ _ hji]
      exact g3
theorem till_take {i : Nat} {o : Oper} {v : Value} {k : Nat} {up : Array Bool} {a : Act} {w : World} (hi : ops[i]? = some o) (hs : Region.noSelect ops = true) (hf : Region.free md ops up i = true) (hr : (Region.ready md ops up).contains i = true)
    (hwait : waitsB ops md st i = true) (hst : up.getD st true = false) (hZ : ∀ c a w, Z (.panic c) (a.put o.dst v) w → Z (.panic c) a w) (hy : YieldsIf P ops F o v a) (hF : F w)
    (h : Till P md ops Z F st k (up.setIfInBounds i true) (a.put o.dst v) w) : Till P md ops Z F st (k + 1) up a w :=
  Till.first hi (Region.noSelect_spec hs) hwait hZ k up a w hst (Region.free_spec hi hf) (by simpa using hr) hy hF h
/-- One that yields its value in whatever world. -/
theorem Till.pure1 {i : Nat} {o : Oper} {v : Value} (hi : ops[i]? = some o) (hsel : ∀ (j : Nat) (x : Oper) cs b, ops[j]? = some x → x.op ≠ .select cs b) (his : i ≠ st)
    (hZ : ∀ c a w, Z (.panic c) (a.put o.dst v) w → Z (.panic c) a w) : ∀ (k : Nat) (up : Array Bool) (a : Act) (w : World),
      (∀ j x, ops[j]? = some x → j ≠ i → up.getD j true = false → (∀ e ∈ x.after, Region.binds md e = true → e.on ≠ i) → o.apart ops x = true) →
      i ∈ Region.ready md ops up → YieldsIf P ops (fun _ => True) o v a → (up.getD st true = false → F w) → Till P md ops Z F st k (up.setIfInBounds i true) (a.put o.dst v) w → Till P md ops Z F st (k + 1) up a w := by
  have notYet : ∀ up : Array Bool, i ∈ Region.ready md ops up → ∀ j ∈ Region.ready md ops up, j ≠ i → ∀ x, ops[j]? = some x → ∀ e ∈ x.after, Region.binds md e = true → e.on ≠ i := by
    intro up hr j hj hne x hx e he hb heq
    obtain ⟨h0, -⟩ := mem_ready.1 hr
    obtain ⟨-, y, hy, hall⟩ := mem_ready.1 hj
    rw [hx] at hy
    cases hy
    have h1 := hall e he hb
    rw [heq] at h1
    by_cases hs : i < up.size
    · simp [hs] at h0 h1; rw [h0] at h1; cases h1
    · simp [Array.getElem?_eq_none (Nat.le_of_not_lt hs)] at h1
  intro k
  induction k with
  | zero =>
    intro up a w hfree hr hy hF H
    refine ⟨fun e => (by rw [e] at hr; cases hr), fun j hj => ?_⟩
    by_cases hji : j = i
    · subst hji; exact hy.wpOp hi trivial ⟨fun e => hF (by rwa [getD_set_ne true his] at e), H⟩
    · have := ready_mono hj hji
      rw [H.1] at this; cases this
  | succ k ih =>
    intro up a w hfree hr hy hF H
    refine ⟨fun e => (by rw [e] at hr; cases hr), fun j hj => ?_⟩
    by_cases hji : j = i
    · subst hji; exact hy.wpOp hi trivial ⟨fun e => hF (by rwa [getD_set_ne true his] at e), H⟩
    · obtain ⟨hjun, x, hx, -⟩ := mem_ready.1 hj
      have step := wpOp_putIf hx (hfree j x hx hji hjun (notYet up hr j hj hji x hx)) (fun cs b => hsel i o cs b hi) (fun cs b => hsel j x cs b hx) hZ hy (H.2 j (ready_mono hj hji))
      have hfree' : ∀ m y, ops[m]? = some y → m ≠ i → (up.setIfInBounds j true).getD m true = false → (∀ e ∈ y.after, Region.binds md e = true → e.on ≠ i) → o.apart ops y = true := by
        intro m y hy2 hmi hun hno
        refine hfree m y hy2 hmi ?_ hno
        by_cases hjm : j = m
        · subst hjm; exact hjun
        · rwa [getD_set_ne true hjm] at hun
      refine wpOp_mono (fun b x' g => ?_) step
      obtain ⟨g1, g2, g3⟩ := g
      have hFx : (up.setIfInBounds j true).getD st true = false → F x' := fun e => g2 (by
        rw [Array.setIfInBounds_comm _ _ (Ne.symm hji), getD_set_ne true his]; exact e)
      refine ⟨hFx, ih (up.setIfInBounds j true) b x' hfree' (ready_mono hr (Ne.symm hji)) g1 hFx ?_⟩
      rw [Array.setIfInBounds_comm _ _ hji]
      exact g3
theorem till_pure {i : Nat} {o : Oper} {v : Value} {k : Nat} {up : Array Bool} {a : Act} {w : World} (hi : ops[i]? = some o) (hs : Region.noSelect ops = true) (hf : Region.free md ops up i = true) (hr : (Region.ready md ops up).contains i = true)
    (his : i ≠ st) (hZ : ∀ c a w, Z (.panic c) (a.put o.dst v) w → Z (.panic c) a w) (hy : YieldsIf P ops (fun _ => True) o v a) (hF : up.getD st true = false → F w)
    (h : Till P md ops Z F st k (up.setIfInBounds i true) (a.put o.dst v) w) : Till P md ops Z F st (k + 1) up a w :=
  Till.pure1 hi (Region.noSelect_spec hs) his hZ k up a w (Region.free_spec hi hf) (by simpa using hr) hy hF h
/-- The one that comes up next, ahead of st. -/
theorem till_next {i : Nat} {o : Oper} {k : Nat} {up : Array Bool} {a : Act} {w : World} (hr : Region.ready md ops up = [i]) (ho : ops[i]? = some o)
    (h : ∀ K : Act → World → Prop, Shut (∀ b x, F x → (F x → Till P md ops Z F st k (up.setIfInBounds i true) b x) → K b x) → if Region.wanted o (yielded ops a.tmps) = true then Oper.wp P o a w K Z else K (a.put o.dst undef) w) : Till P md ops Z F st (k + 1) up a w := by
  refine ⟨fun e => (by rw [hr] at e; cases e), fun j hj => ?_⟩
  rw [hr] at hj
  obtain rfl : j = i := by simpa using hj
  exact wpOp_step ho (fun K hK => h K (fun b x hF hW => hK b x ⟨fun _ => hF, hW hF⟩))
/-- The one that comes up next, from st on. -/
theorem till_last {i : Nat} {o : Oper} {k : Nat} {up : Array Bool} {a : Act} {w : World} (hr : Region.ready md ops up = [i]) (ho : ops[i]? = some o) (hst : (up.setIfInBounds i true).getD st true = true)
    (h : ∀ K : Act → World → Prop, Shut (∀ b x, Till P md ops Z F st k (up.setIfInBounds i true) b x → K b x) → if Region.wanted o (yielded ops a.tmps) = true then Oper.wp P o a w K Z else K (a.put o.dst undef) w) : Till P md ops Z F st (k + 1) up a w := by
  refine ⟨fun e => (by rw [hr] at e; cases e), fun j hj => ?_⟩
  rw [hr] at hj
  obtain rfl : j = i := by simpa using hj
  exact wpOp_step ho (fun K hK => h K (fun b x hW => hK b x ⟨fun e => (by rw [hst] at e; cases e), hW⟩))
theorem till_done {up : Array Bool} {a : Act} {w : World} (hr : Region.ready md ops up = []) (h : Z .normal a w) : ∀ k, Till P md ops Z F st k up a w
  | 0 => ⟨hr, h⟩
  | _ + 1 => ⟨fun _ => h, by rw [hr]; simp⟩
end
end Go.Proofs.YtbilnomafloopaaGreat

namespace Go.Proofs.YtbilnomafloopaaGreat
set_option maxRecDepth 100000
open Go.ChangeShapes Go.WideShapes Go.ChangeAt Go.RowKit Go.Shelf
set_option linter.unusedVariables false
set_option linter.unusedSimpArgs false
end Go.Proofs.YtbilnomafloopaaGreat

namespace Go.Proofs.YtbilnomafloopaaGreat
set_option maxRecDepth 100000
open Go.ChangeShapes Go.WideShapes Go.ChangeAt Go.RowKit Go.Shelf
set_option linter.unusedVariables false
set_option linter.unusedSimpArgs false
end Go.Proofs.YtbilnomafloopaaGreat

namespace Go.Proofs.YtbilnomafloopaaGreat
set_option maxRecDepth 100000
open Go.ChangeShapes Go.WideShapes Go.ChangeAt Go.RowKit Go.Shelf
set_option linter.unusedVariables false
set_option linter.unusedSimpArgs false
/-- The cells of a bucket. -/
def bcl (b : Bkt) (lv uv : Value) : Array Value := #[.string b.name, .int .i64 b.st, lv, uv, .int .u64 (b.last : Nat)]
theorem bx_bkt {w : World} {p : Nat} {b : Bkt} {lv uv : Value} (h : Bx w p 60 (bcl b lv uv)) :
    w.cell? ⟨p, 0, none⟩ = some (.string b.name) ∧ w.cell? ⟨p, 1, none⟩ = some (.int .i64 b.st) ∧ w.cell? ⟨p, 2, none⟩ = some lv ∧ w.cell? ⟨p, 3, none⟩ = some uv ∧ w.cell? ⟨p, 4, none⟩ = some (.int .u64 (b.last : Nat)) := by
  refine ⟨?_, ?_, ?_, ?_, ?_⟩ <;> (rw [h.cell]; rfl)
theorem octE_top {l : List Ent} (h : Small l) : octE l ≤ 100000000000 := by
  have := octE_le h l.length
  rwa [List.take_length] at this
theorem sizU_all {l : List Upl} (h : smL l) : sizU l ≤ 5000000000 := by
  have := sizU_top h l.length
  rwa [List.take_length] at this
set_option maxHeartbeats 4000000 in
theorem boct_any (b : Bkt) (lv uv : Value) (w : World) (hs : smE b.L) (hu : smL b.U) (hv : BktV w b lv uv) :
    Calls Tryz.prog 104 #[bkt b lv uv] w fun e w' => e = .returned (.int .i64 (octB b : Nat)) ∧ Q w w' := by
  have z1 := octE_top hs.1
  have z2 := sizU_all hu
  have q0 := (Q.refl w).alloc (.cells (bcl b lv uv) 60)
  have Z := Lib.hid (Bx.new w 60 (bcl b lv uv))
  have CO := Lib.hid (count_any b.L lv (w.alloc (.cells (bcl b lv uv) 60)) hs.1 (hv.1.on q0))
  have OC := Lib.hid fun d (q : Q w d) => octets_any b.U uv d hu (hv.2.on q)
  obtain ⟨A1, c1, rfl⟩ := hv.1.form
  obtain ⟨A2, c2, rfl⟩ := hv.2.form
  have HV : Hid (((octE b.L : Nat) : Int) + ((sizU b.U : Nat) : Int) = ((octB b : Nat) : Int)) := Lib.hid (by rw [octB]; omega)
  generalize octE b.L = x at *
  generalize sizU b.U = y at *
  generalize octB b = o at *
  clear hs hu hv
  rw [bkt]
  go_enter Tryz.func104, Tryz.ntmps104
  go_wp2_with fail
  refine (CO.out).mono ?_
  rintro e w1 ⟨rfl, q1⟩
  obtain ⟨-, -, -, e3, -⟩ := bx_bkt (Z.out.on q1)
  go_wp2_with fail
  refine (OC.out _ (q0.trans q1)).mono ?_
  rintro e w2 ⟨rfl, q2⟩
  go_wp2
  go_ret
  exact ⟨by rw [← HV.out]; rfl, (q0.trans q1).trans q2⟩
theorem eg_num1 : ∀ args w, (callFunc 158 args).run Tryz.prog w = .ok (.enter 158 args) w := enters_of Tryz.func158 (by kernel_rfl) rfl
theorem eg_num2 : ∀ args w, (callFunc 160 args).run Tryz.prog w = .ok (.enter 160 args) w := enters_of Tryz.func160 (by kernel_rfl) rfl
set_option maxHeartbeats 4000000 in
theorem num1_any (x : Ver) (top B : Nat) (w : World) (hc : w.cell? ⟨B, 0, none⟩ = some (.int .u64 (top : Nat))) (hB : B < w.heap.size) :
    Calls Tryz.prog 158 #[ver x, .pointer (some ⟨B, 0, none⟩)] w fun e w' => e = .returned (.bool (decide (top < x.id))) ∧ Q w w' := by
  have HQ := Lib.hid (fun o => (Q.refl w).alloc o)
  have hne : B ≠ w.heap.size := by omega
  rw [ver]
  by_cases h : top < x.id
  · have h1 : (top : Int) < (x.id : Int) := by omega
    have HV : Hid (decide (top < x.id) = true) := Lib.hid (by simp [h])
    clear h
    go_enter Tryz.func158, Tryz.ntmps158
    go_wp2
    go_ret
    exact ⟨ret_bool (by rw [HV.out]), HQ.out _⟩
  · have h1 : ¬ (top : Int) < (x.id : Int) := by omega
    have HV : Hid (decide (top < x.id) = false) := Lib.hid (by simp [h])
    clear h
    go_enter Tryz.func158, Tryz.ntmps158
    go_wp2
    go_ret
    exact ⟨ret_bool (by rw [HV.out]), HQ.out _⟩
set_option maxHeartbeats 4000000 in
theorem num2_any (i top : Nat) (k : ByteArray) (u : Value) (hu : ∃ A n c, u = .slice A n c) (B : Nat) (w : World) (hc : w.cell? ⟨B, 4, none⟩ = some (.int .u64 (top : Nat))) (hB : B < w.heap.size) :
    Calls Tryz.prog 160 #[.agg #[.int .u64 (i : Nat), .string k, u], .pointer (some ⟨B, 0, none⟩)] w fun e w' => e = .returned (.bool (decide (top < i))) ∧ Q w w' := by
  have HQ := Lib.hid (fun o => (Q.refl w).alloc o)
  have hne : B ≠ w.heap.size := by omega
  obtain ⟨A, n, c, rfl⟩ := hu
  by_cases h : top < i
  · have h1 : (top : Int) < (i : Int) := by omega
    have HV : Hid (decide (top < i) = true) := Lib.hid (by simp [h])
    clear h
    go_enter Tryz.func160, Tryz.ntmps160
    go_wp2
    go_ret
    exact ⟨ret_bool (by rw [HV.out]), HQ.out _⟩
  · have h1 : ¬ (top : Int) < (i : Int) := by omega
    have HV : Hid (decide (top < i) = false) := Lib.hid (by simp [h])
    clear h
    go_enter Tryz.func160, Tryz.ntmps160
    go_wp2
    go_ret
    exact ⟨ret_bool (by rw [HV.out]), HQ.out _⟩
set_option maxHeartbeats 4000000 in
theorem indexFuncQ_any (g B : Nat) (f : Nat → Bool) (l : List Upl) (v : Value) (w : World) (eg : ∀ args w, (callFunc g args).run Tryz.prog w = .ok (.enter g args) w)
    (hp : ∀ i k A n c b, Q w b → Calls Tryz.prog g #[.agg #[.int .u64 (i : Nat), .string k, .slice A n c], .pointer (some ⟨B, 0, none⟩)] b fun e w' => e = .returned (.bool (f i)) ∧ Q b w')
    (hl : l.length ≤ 1000) (ht : Upls w w.heap.size v l) :
    Calls Tryz.prog 194 #[v, .func (.func g) #[] #[.pointer (some ⟨B, 0, none⟩)]] w fun e w' => e = .returned (.int .i64 (idxL (fun x : Upl => f x.id) l)) ∧ Q w w' := by
  have HT := Lib.hid ht
  have HP := Lib.hid hp
  obtain ⟨A, c, rfl⟩ := ht.form
  clear ht hp
  go_enter Tryz.func194, Tryz.ntmps194
  go_wp2_with fail
  go_loopw [5, 8] (fun _ I wr => ∃ i : Nat, i ≤ l.length ∧ I = .int .i64 i ∧ Q w wr ∧ Hid (∀ j (hj : j < i) (hl : j < l.length), f l[j].id = false)) (fun _ I _ => l.length - (intOf I).toNat)
  case atStart => exact ⟨0, Nat.zero_le _, rfl, Q.refl _, Lib.hid (fun j h => by omega)⟩
  case round =>
    obtain ⟨i, hil, rfl, q, HK⟩ := hrel
    by_cases hlt : i < l.length
    · obtain ⟨a, c', hv, ha, A2, c2, hvs, hat⟩ := HT.out.pick i hlt
      injection hv with e1 e2 e3
      subst e1 e3
      obtain ⟨d0, d1, d2⟩ := hat _ q
      have C := HP.out l[i].id l[i].key A2 l[i].L.length c2 wr q
      cases hpx : f l[i].id with
      | true =>
        have HV := Lib.hid (idxL_hit (p := fun x : Upl => f x.id) hlt hpx HK.out)
        rw [hpx] at C
        obtain ⟨x, hx⟩ : ∃ x, x = l[i] := ⟨_, rfl⟩
        rw [← hx] at d0 d1 d2 C
        have C := Lib.hid C
        clear hx hpx hat hvs
        go_wp2_with (go_at_fn g; refine (C.out).mono ?_; rintro e w1 ⟨rfl, q1⟩)
        go_ret
        exact ⟨by rw [HV.out]; rfl, q.trans q1⟩
      | false =>
        have HK2 : Hid (∀ j (hj : j < i + 1) (hl : j < l.length), f l[j].id = false) := Lib.hid (fun j hj hl => by
          by_cases e : j = i
          · subst e; exact hpx
          · exact HK.out j (by omega) hl)
        rw [hpx] at C
        obtain ⟨x, hx⟩ : ∃ x, x = l[i] := ⟨_, rfl⟩
        rw [← hx] at d0 d1 d2 C
        have C := Lib.hid C
        clear hx hpx hat hvs
        go_wp2_with (go_at_fn g; refine (C.out).mono ?_; rintro e w1 ⟨rfl, q1⟩)
        go_roundw
        case rel => exact ⟨i + 1, by omega, by go_num, q.trans q1, HK2⟩
        case measure => simp [intOf]; omega
    · have HV := Lib.hid (idxL_none (p := fun x : Upl => f x.id) (l := l) (fun j hl => HK.out j (by omega) hl))
      go_wp2
      go_ret
      exact ⟨by rw [HV.out]; rfl, q⟩
theorem idxL_sign {α : Type} (p : α → Bool) (l : List α) : 0 ≤ idxL p l ↔ l.any p = true := by
  unfold idxL
  cases h : l.findIdx? p with
  | some i =>
    obtain ⟨hi, hp, -⟩ := List.findIdx?_eq_some_iff_getElem.1 h
    refine ⟨fun _ => List.any_eq_true.2 ⟨_, List.getElem_mem hi, hp⟩, fun _ => ?_⟩
    show (0 : Int) ≤ (i : Nat)
    omega
  | none =>
    rw [List.findIdx?_eq_none_iff] at h
    refine ⟨fun k => by simp at k, fun k => ?_⟩
    obtain ⟨x, hx, hp⟩ := List.any_eq_true.1 k
    rw [h x hx] at hp; simp at hp
set_option maxHeartbeats 4000000 in
theorem containsQ_any (g B : Nat) (f : Nat → Bool) (l : List Upl) (v : Value) (w : World) (eg : ∀ args w, (callFunc g args).run Tryz.prog w = .ok (.enter g args) w)
    (hp : ∀ i k A n c b, Q w b → Calls Tryz.prog g #[.agg #[.int .u64 (i : Nat), .string k, .slice A n c], .pointer (some ⟨B, 0, none⟩)] b fun e w' => e = .returned (.bool (f i)) ∧ Q b w')
    (hl : l.length ≤ 1000) (ht : Upls w w.heap.size v l) :
    Calls Tryz.prog 159 #[v, .func (.func g) #[] #[.pointer (some ⟨B, 0, none⟩)]] w fun e w' => e = .returned (.bool (l.any fun x => f x.id)) ∧ Q w w' := by
  have C := Lib.hid (indexFuncQ_any g B f l v w eg hp hl ht)
  have HS := idxL_sign (fun x : Upl => f x.id) l
  clear hp
  cases h : l.any (fun x => f x.id) with
  | true =>
    have k : 0 ≤ idxL (fun x : Upl => f x.id) l := HS.2 h
    clear HS
    generalize idxL (fun x : Upl => f x.id) l = r at C k
    go_enter Tryz.func159, Tryz.ntmps159
    go_wp2_with fail
    refine (C.out).mono ?_
    rintro e w1 ⟨rfl, q1⟩
    go_wp2
    go_ret
    exact ⟨by first | rfl | simp [k], q1⟩
  | false =>
    have k : ¬ 0 ≤ idxL (fun x : Upl => f x.id) l := fun e => by rw [HS.1 e] at h; simp at h
    clear HS
    generalize idxL (fun x : Upl => f x.id) l = r at C k
    go_enter Tryz.func159, Tryz.ntmps159
    go_wp2_with fail
    refine (C.out).mono ?_
    rintro e w1 ⟨rfl, q1⟩
    go_wp2
    go_ret
    exact ⟨by first | rfl | simp [k], q1⟩
end Go.Proofs.YtbilnomafloopaaGreat

