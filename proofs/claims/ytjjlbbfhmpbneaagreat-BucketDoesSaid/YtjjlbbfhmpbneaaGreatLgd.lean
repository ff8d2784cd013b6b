/-
  Contracts of the document's Put, Drop, Delete and Get, whole.
-/
import Derived.Test.YtjjlbbfhmpbneaaGreatLgb
import Derived.Test.YtjjlbbfhmpbneaaGreatLgc
import Derived.Test.YtjjlbbfhmpbneaaGreatLg
namespace Go.Proofs.YtjjlbbfhmpbneaaGreat
open Lib renaming hid → AC
set_option maxHeartbeats 16000000
set_option maxRecDepth 100000
set_option linter.unusedVariables false
set_option linter.unusedSimpArgs false
section
open Go.ChangeShapes Go.WideShapes Go.ChangeAt Go.RowKit
theorem EG(l:List Ver)(v:Value)(s:Int)(x:Ver)(w:World)(L:List Ver)(c:Nat)(h:PutC l s x L c)(hl:l.length≤900)(hx:okV x)(ht:Vers w w.heap.size v l):
  Calls Tryz.prog 82 #[v,.int .i64 s,ver x] w fun e w'=>∃ v',e=.returned (.tuple #[v',.int .i64 (c:Nat)])∧OwnV w.heap.size w' v' L∧Q w w':=by
 cases h with
 | chk h1=>exact Ot l v s x w h1 hl hx ht
 | state h1 h2=>
   rcases h2 with h2 | h2
   ·exact Oq l v s x w h1 h2 hl hx ht
   ·exact L7 l v s x w h1 h2 hl hx ht
 | may h1 h2 h3 h4=>exact Oo l v s x w h1 h2 h3 h4 hl hx ht
 | zero h1 h2 h3 h4=>exact L6 l v s x w h1 h2 h3 h4 hl hx ht
 | late h1 h2 h3 h4 h5 h6=>
   obtain⟨y,m,rfl,hy⟩:=h6
   by_cases hs:s=1
   ·exact KL (y :: m) v s x w h1 hs (fun e=>h5 ⟨hs,e⟩) h4 (by simp) hy hl hx ht
   ·exact KM (y :: m) v s x w h1 (by omega) h4 (by simp) hy hl hx ht
 | order h1 h2 h3 h4 h5 h6=>
   cases l with
   | nil=>simp at h6
   | cons y m=>exact D5 (y :: m) v s x w h1 h2 h4 h3 (by simp) (h5 y m rfl) h6 hl hx ht
 | large h1 h2 h3 h4 h5 h6 h7=>
   cases l with
   | nil=>simp at h7
   | cons y m=>exact D6 (y :: m) v s x w h1 h2 h4 h3 (by simp) (h5 y m rfl) h6 h7 hl hx ht
 | on h1 h2 h3 h4 h5 h6 h7=>
   cases l with
   | nil=>exact IV [] v s x w h1 h2 h4 h3 rfl h6 h7 hl hx ht
   | cons y m=>exact GL (y :: m) v s x w h1 h2 h4 h3 (by simp) (h5 y m rfl) h6 h7 hl hx ht
 | large0 h1 h2 h3 h4 h5=>
   cases l with
   | nil=>simp [woV] at h5
   | cons y m=>exact Dh (y :: m) v s x w h1 h2 h3 (by simp) (h4 y m rfl) h5 hl hx ht
 | over h1 h2 h3 h4 h5=>
   cases l with
   | nil=>exact Hd [] v s x w h1 h2 h3 rfl h5 hl hx ht
   | cons y m=>exact FZ (y :: m) v s x w h1 h2 h3 (by simp) (h4 y m rfl) h5 hl hx ht
theorem Hf(l:List Ver)(v:Value)(id:Nat)(w:World)(L:List Ver)(c:Nat)(h:DropC l id L c)(hl:l.length≤900)(ht:Vers w w.heap.size v l):
  Calls Tryz.prog 85 #[v,.int .u64 (id:Nat)] w fun e w'=>∃ v',e=.returned (.tuple #[v',.int .i64 (c:Nat)])∧OwnV w.heap.size w' v' L∧Q w w':=by
 cases h with
 | chk h1=>
   refine(MP l v id w (.inr ⟨rfl,h1⟩) (by omega) ht).mono ?_
   rintro e w' ⟨rfl,q⟩
   exact⟨_,rfl,OwnV.nil _ _,q⟩
 | none h1 h2=>
   refine(KT l v id w (.inl ⟨rfl,h1⟩) (by rw [F9 h2]) (by omega) ht).mono ?_
   rintro e w' ⟨rfl,q⟩
   exact⟨_,rfl,OwnV.nil _ _,q⟩
 | yes h1 h2=>
   obtain⟨i,hi,hid⟩:=h2
   refine MO l v id w (.inl ⟨rfl,h1⟩) ?_ (by omega) ht
   rw [← hid,Lm h1 hi,List.length_append,List.length_take,List.length_drop]
   omega
theorem IY(l:List Ver)(v:Value)(s:Int)(id:Nat)(tm:Int)(w:World)(L:List Ver)(c:Nat)(h:J1 l s id tm L c)(hl:l.length≤900)(hid:id<18446744073709551616)(ht1 : -9223372036854775808≤tm)(ht2:tm≤9223372036854775807)(ht:Vers w w.heap.size v l):
  Calls Tryz.prog 83 #[v,.int .i64 s,.int .u64 (id:Nat),.int .i64 tm] w fun e w'=>∃ v',e=.returned (.tuple #[v',.int .i64 (c:Nat)])∧OwnV w.heap.size w' v' L∧Q w w':=by
 rcases h with⟨rfl,h⟩ | ⟨h0,h⟩
 ·have C:=AC (Hf l v 0 w L c h hl ht)
  clear h ht
  go_enter Tryz.func83,Tryz.ntmps83
  go_wp2_with fail
  refine(C.out).mono ?_
  rintro e w1 ⟨v1,rfl,o1,q1⟩
  go_wp2
  go_ret2
  exact⟨_,rfl,o1,q1⟩
 ·have h00:(s==0)=false:=by simpa using h0
  by_cases h2:s=2
  ·rw [if_pos h2] at h
   subst h2
   have C:=AC (EG l v 2 _ w L c h hl (DS (by omega) ht1 ht2) ht)
   rw [ver] at C
   simp only [Fa] at C
   clear h ht h0
   go_enter Tryz.func83,Tryz.ntmps83
   go_wp2_with fail
   refine(C.out).mono ?_
   rintro e w1 ⟨v1,rfl,o1,q1⟩
   go_wp2
   go_ret2
   exact⟨_,rfl,o1,q1⟩
  ·rw [if_neg h2] at h
   have h22:(s==2)=false:=by simpa using h2
   have C:=AC (EG l v s _ w L c h hl (DS hid ht1 ht2) ht)
   rw [ver] at C
   simp only [Fa] at C
   clear h ht h0 h2
   go_enter Tryz.func83,Tryz.ntmps83
   go_wp2_with fail
   refine(C.out).mono ?_
   rintro e w1 ⟨v1,rfl,o1,q1⟩
   go_wp2
   go_ret2
   exact⟨_,rfl,o1,q1⟩
end
end Go.Proofs.YtjjlbbfhmpbneaaGreat
