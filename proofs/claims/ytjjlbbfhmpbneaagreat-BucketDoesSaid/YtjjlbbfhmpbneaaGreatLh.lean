/-
  Entries: as values, as cells, as slices that are read, as rows that a call makes. Contract of the statements' Few of an index. What is read of an index: contracts of At, Many, Octets, Count, place, Get. Contracts of place, both Get, and slices.Clone of versions.
-/
import Derived.Test.YtjjlbbfhmpbneaaGreatLf
import Derived.Test.YtjjlbbfhmpbneaaGreatLb
import Derived.Deep.RegionHeld3
import Derived.Shelf.Abstract
namespace Go.Proofs.YtjjlbbfhmpbneaaGreat
open AllReadyH renaming cons → aC, nil → aN
open Lib renaming hid → AC
set_option maxHeartbeats 16000000
set_option maxRecDepth 100000
set_option linter.unusedVariables false
set_option linter.unusedSimpArgs false
section
open Go.ChangeShapes Go.WideShapes Go.ChangeAt Go.RowKit
structure Ent where
 key:ByteArray
 L:List Ver
def AtE(w:World)(B:Nat)(p:Addr)(e:Ent):Prop:=
 w.cell? p=some (.string e.key)∧∃ u,w.cell? ⟨p.block,p.off+1,none⟩=some u∧Vers w B u e.L
def okE(e:Ent):Prop:=e.key.size≤maxLen∧e.L.length≤maxLen
def Ents(w:World)(B:Nat)(v:Value)(l:List Ent):Prop:=
 ∃ A c,v=.slice A l.length c∧l.length≤c∧(A=none→c=0)∧(∀ x∈l,okE x)∧∀ k (h:k<l.length),∃ a:Addr,A=some a∧a.block<B∧AtE w B (a.add (k*2)) l[k]
theorem AtE.below{w w':World}{B:Nat}{p:Addr}{e:Ent}(h:AtE w B p e)(hp:p.block<B)(k:Below B w w'):AtE w' B p e:=by
 obtain⟨h1,u,h2,h3⟩:=h
 exact⟨(k.cell hp).trans h1,u,(k.cell (p:=⟨p.block,p.off+1,none⟩) hp).trans h2,h3.below k⟩
theorem AtE.more{w:World}{B B':Nat}{p:Addr}{e:Ent}(h:AtE w B p e)(k:B≤B'):AtE w B' p e:=by
 obtain⟨h1,u,h2,h3⟩:=h
 exact⟨h1,u,h2,h3.more k⟩
theorem Ents.below{w w':World}{B:Nat}{v:Value}{l:List Ent}(h:Ents w B v l)(k:Below B w w'):Ents w' B v l:=by
 obtain⟨A,c,e,e0,ez,eo,f⟩:=h
 refine⟨A,c,e,e0,ez,eo,fun i hi=>?_⟩
 obtain⟨a,e1,e2,e3⟩:=f i hi
 exact⟨a,e1,e2,e3.below (by rw [AG];exact e2) k⟩
theorem Ents.more{w:World}{B B':Nat}{v:Value}{l:List Ent}(h:Ents w B v l)(k:B≤B'):Ents w B' v l:=by
 obtain⟨A,c,e,e0,ez,eo,f⟩:=h
 refine⟨A,c,e,e0,ez,eo,fun i hi=>?_⟩
 obtain⟨a,e1,e2,e3⟩:=f i hi
 exact⟨a,e1,by omega,e3.more k⟩
theorem Ents.on{w w':World}{v:Value}{l:List Ent}(h:Ents w w.heap.size v l)(k:Q w w'):Ents w' w'.heap.size v l:=(h.below k).more k.size
theorem Ents.nil(w:World)(B:Nat):Ents w B (.slice none 0 0) []:=⟨none,0,rfl,Nat.le_refl _,fun _=>rfl,by simp,fun k h=>absurd h (by simp)⟩
theorem Ents.okAll{w:World}{B:Nat}{v:Value}{l:List Ent}(h:Ents w B v l):∀ x∈l,okE x:=by
 obtain⟨A,c,e,e0,ez,eo,f⟩:=h;exact eo
theorem Vers.okAll'{w:World}{B:Nat}{v:Value}{l:List Ver}(h:Vers w B v l):∀ x∈l,okV x:=by
 obtain⟨A,c,e,e0,ez,eo,f⟩:=h;exact eo
theorem Vers.form{w:World}{B:Nat}{v:Value}{l:List Ver}(h:Vers w B v l):∃ A c,v=.slice A l.length c:=by
 obtain⟨A,c,e,-⟩:=h;exact⟨A,c,e⟩
theorem Ents.form{w:World}{B:Nat}{v:Value}{l:List Ent}(h:Ents w B v l):∃ A c,v=.slice A l.length c:=by
 obtain⟨A,c,e,-⟩:=h;exact⟨A,c,e⟩
theorem Ents.okVs{w:World}{B:Nat}{v:Value}{l:List Ent}(h:Ents w B v l):∀ x∈l,∀ y∈x.L,okV y:=by
 obtain⟨A,c,e,e0,ez,eo,f⟩:=h
 intro x hx
 obtain⟨k,hk,rfl⟩:=List.getElem_of_mem hx
 obtain⟨a,-,-,-,u,-,hu⟩:=f k hk
 exact hu.okAll'
theorem Np:Tryz.prog.cellsOf 79=2:=by kernel_rfl
theorem ER:(Tryz.prog.info? 79).map (fun i=>(i.zero,i.size,i.bytes))=some (some (.agg #[.string ⟨#[]⟩,.slice none 0 0]),2,40):=by kernel_rfl
def AY(p:Ent×Value):List Value:=[.string p.1.key,p.2]
def shapes(P:List (Ent×Value)):Prop:=∀ p∈P,∃ A n c,p.2=.slice A n c
theorem CY(P:List (Ent×Value)):(P.flatMap AY).length=P.length*2:=by
 induction P with
 | nil=>rfl
 | cons x r ih=>rw [List.flatMap_cons,List.length_append,ih,List.length_cons,show(AY x).length=2 by rfl];omega
theorem EU(P:List (Ent×Value))(k:Nat)(h:k<P.length){j:Nat}(hj:j<2):(P.flatMap AY)[k*2+j]?=(AY P[k])[j]?:=by
 induction P generalizing k with
 | nil=>simp at h
 | cons x r ih=>
   rw [List.flatMap_cons]
   cases k with
   | zero=>rw [List.getElem?_append_left (by rw [show(AY x).length=2 by rfl];omega)];simp
   | succ k=>
     rw [List.getElem?_append_right (by rw [show(AY x).length=2 by rfl];omega),show(k+1)*2+j - (AY x).length=k*2+j by rw [show(AY x).length=2 by rfl];omega,ih k (by simpa using h)]
     rfl
theorem Bq{p:Ent×Value}(h:∃ A n c,p.2=.slice A n c):∀ u∈AY p,u.oneCell'=true:=by
 intro u hu
 obtain⟨A,n,c,e⟩:=h
 simp [AY] at hu
 rcases hu with rfl | rfl
 ·rfl
 ·rw [e];rfl
theorem M8{P:List (Ent×Value)}(h:shapes P):∀ u∈P.flatMap AY,u.oneCell'=true:=by
 intro u hu
 obtain⟨x,hm,hx⟩:=List.mem_flatMap.1 hu
 exact Bq (h x hm) u hx
def Apt(base:Nat)(w:World)(u:Value)(L:List Ver):Prop:=(∀ x∈L,okV x)∧L.length≤maxLen∧(Vers w base u L∨OwnV base w u L)
theorem Apt.vers{base:Nat}{w:World}{u:Value}{L:List Ver}(h:Apt base w u L)(hb:base≤w.heap.size):Vers w w.heap.size u L:=by
 obtain⟨h1,-,h2 | h2⟩:=h
 ·exact h2.more hb
 ·exact h2.vers h1
theorem Apt.on{base:Nat}{w w':World}{u:Value}{L:List Ver}(h:Apt base w u L)(q:Q w w')(hb:base≤w.heap.size):Apt base w' u L:=by
 obtain⟨h1,h0,h2 | h2⟩:=h
 ·exact⟨h1,h0,.inl (h2.below (Below.mono q hb))⟩
 ·exact⟨h1,h0,.inr (h2.on q)⟩
theorem Apt.shape{base:Nat}{w:World}{u:Value}{L:List Ver}(h:Apt base w u L):∃ A n c,u=.slice A n c:=by
 obtain⟨-,-,h2 | h2⟩:=h
 ·obtain⟨A,c,e⟩:=h2.form;exact⟨A,_,c,e⟩
 ·rcases h2.2 with⟨rfl,h0⟩ | ⟨g,cap,cur,rfl,-⟩
  ·exact⟨none,0,0,rfl⟩
  ·exact⟨_,_,_,rfl⟩
def RowE(base:Nat)(w:World)(v:Value)(P:List (Ent×Value)):Prop:=w.ownsRow base 79 2 v P.length (P.flatMap AY)
theorem RowE.on{base:Nat}{w w':World}{v:Value}{P:List (Ent×Value)}(h:RowE base w v P)(q:Q w w'):RowE base w' v P:=by
 rcases h.2 with⟨rfl,h0⟩ | ⟨g,cap,cur,rfl,hb,hg,h1,h2,h3,h4⟩
 ·exact⟨h.1,.inl ⟨rfl,h0⟩⟩
 ·exact⟨h.1,.inr ⟨g,cap,cur,rfl,hb,(q.block g (lt_of_block hg)).trans hg,h1,h2,h3,h4⟩⟩
theorem Apt.grown{base:Nat}{w w':World}{v u:Value}{P:List (Ent×Value)}{L:List Ver}(h:Apt base w u L)(r:RowE base w v P)(g:w.grownBy w' v.ownBlock)(hb:base≤w.heap.size):Apt base w' u L:=by
 obtain⟨h1,h0,h2 | h2⟩:=h
 ·refine⟨h1,h0,.inl (h2.keep fun p hp=>World.cell?_of_block (g.block p.block (by omega) fun e=>?_))⟩
  have:=(World.ownsRow.lt r p.block e.symm).1
  omega
 ·refine⟨h1,h0,.inr (World.ownsRow.kept h2 g ?_)⟩
  rcases h2.2 with⟨rfl,-⟩ | ⟨k,cap,cur,rfl,-,hk,-⟩
  ·exact .inl rfl
  ·refine .inr fun e=>?_
   rcases r.2 with⟨rfl,-⟩ | ⟨k',cap',cur',rfl,-,hk',-⟩
   ·simp [Value.ownBlock] at e
   ·simp [Value.ownBlock] at e
    subst e
    rw [hk] at hk'
    injection hk' with hk'
    injection hk' with e1 e2
    exact absurd e2 (by decide)
def OwnE(base:Nat)(w:World)(v:Value)(l:List Ent):Prop:=∃ P:List (Ent×Value),P.map (·.1)=l∧RowE base w v P∧∀ p∈P,p.1.key.size≤maxLen∧Apt base w p.2 p.1.L
theorem OwnE.nil(base:Nat)(w:World):OwnE base w (.slice none 0 0) []:=⟨[],rfl,World.ownsRow_nil w _ _ _,by simp⟩
theorem OwnE.on{base:Nat}{w w':World}{v:Value}{l:List Ent}(h:OwnE base w v l)(q:Q w w')(hb:base≤w.heap.size):OwnE base w' v l:=by
 obtain⟨P,e,r,f⟩:=h
 exact⟨P,e,r.on q,fun p hp=>⟨(f p hp).1,(f p hp).2.on q hb⟩⟩
theorem OwnE.len{base:Nat}{w:World}{v:Value}{l:List Ent}(h:OwnE base w v l):∃ A c,v=.slice A l.length c:=by
 obtain⟨P,rfl,r,-⟩:=h
 rw [List.length_map]
 rcases r.2 with⟨rfl,h0⟩ | ⟨g,cap,cur,rfl,-⟩
 ·exact⟨none,0,by rw [h0]⟩
 ·exact⟨_,_,rfl⟩
theorem RowE.ents{base:Nat}{w:World}{v:Value}{P:List (Ent×Value)}(r:RowE base w v P)(hb:base≤w.heap.size)(f:∀ p∈P,p.1.key.size≤maxLen∧p.1.L.length≤maxLen∧Vers w w.heap.size p.2 p.1.L):Ents w w.heap.size v (P.map (·.1)):=by
 have ok:∀ x∈P.map (·.1),okE x:=by
  intro x hx
  obtain⟨p,hp,rfl⟩:=List.mem_map.1 hx
  exact⟨(f p hp).1,(f p hp).2.1⟩
 rcases r.2 with⟨rfl,h0⟩ | ⟨g,cap,cur,rfl,hb,hg,h1,h2,h3,h4⟩
 ·rw [List.length_eq_zero_iff.1 h0];exact Ents.nil _ _
 ·refine⟨some ⟨g,0,none⟩,cap,by rw [List.length_map],by rw [List.length_map];exact h1,(by simp),ok,fun k hk=>⟨⟨g,0,none⟩,rfl,lt_of_block hg,?_⟩⟩
  rw [List.length_map] at hk
  have hc:∀ j,j<2→w.cell? ((⟨g,0,none⟩:Addr).add (k*2+j))=(AY P[k])[j]?:=by
   intro j hj
   have:=EU P k hk hj
   obtain⟨u,hu⟩:∃ u,(AY P[k])[j]?=some u:=⟨_,List.getElem?_eq_getElem (by rw [show(AY P[k]).length=2 by rfl];exact hj)⟩
   rw [hu] at this ⊢
   exact World.ownsRow.cells r (g:=g) rfl _ _ this
  have ha:(⟨g,0,none⟩:Addr).add (k*2+1)=⟨((⟨g,0,none⟩:Addr).add (k*2)).block,((⟨g,0,none⟩:Addr).add (k*2)).off+1,none⟩:=by
   rw [Ai _ (by omega),AG]
   unfold Addr.add
   split
   ·rename_i h0;simp [h0]
   ·simp [Nat.add_assoc]
  rw [List.getElem_map]
  refine⟨hc 0 (by omega),P[k].2,?_,(f _ (List.getElem_mem hk)).2.2⟩
  rw [← ha];exact hc 1 (by omega)
theorem OwnE.ents{base:Nat}{w:World}{v:Value}{l:List Ent}(h:OwnE base w v l)(hb:base≤w.heap.size):Ents w w.heap.size v l:=by
 obtain⟨P,rfl,r,f⟩:=h
 exact r.ents hb fun p hp=>⟨(f p hp).1,(f p hp).2.2.1,(f p hp).2.vers hb⟩
theorem OwnE.shapes{base:Nat}{w:World}{P:List (Ent×Value)}(f:∀ p∈P,p.1.key.size≤maxLen∧Apt base w p.2 p.1.L):shapes P:=fun p hp=>(f p hp).2.shape
theorem RowE.onto{base k:Nat}{w2:World}{v2:Value}{P R:List (Ent×Value)}(h1:w2.ownsRow base 79 2 v2 (P.length+k) (P.flatMap AY++R.flatMap AY))(hk:k=R.length):RowE base w2 v2 (P++R):=by
 subst hk
 unfold RowE
 rw [List.flatMap_append,List.length_append]
 exact h1
theorem CI{base:Nat}{w0 wr w2:World}{v:Value}{P:List (Ent×Value)}(hbel:Below base w0 wr)(hb:base≤wr.heap.size)(hown:RowE base wr v P)(h2:wr.grownBy w2 v.ownBlock):Below base w0 w2:=
 hbel.grown h2 hb (fun k hk=>(World.ownsRow.lt hown k hk).1)
theorem OwnE.snoc{base:Nat}{w w':World}{v v':Value}{P:List (Ent×Value)}{p:Ent×Value}(r:RowE base w v P)(f:∀ q∈P,q.1.key.size≤maxLen∧Apt base w q.2 q.1.L)(hp:p.1.key.size≤maxLen)(ha:Apt base w p.2 p.1.L)
  (h1:w'.ownsRow base 79 2 v' (P.length+1) (P.flatMap AY++AY p)) (g:w.grownBy w' v.ownBlock) (hb:base≤w.heap.size):OwnE base w' v' (P.map (·.1) ++ [p.1]):=by
 refine⟨P ++ [p],by simp,RowE.onto (R:=[p]) (by simpa using h1) rfl,fun q hq=>?_⟩
 rcases List.mem_append.1 hq with hq | hq
 ·exact⟨(f q hq).1,(f q hq).2.grown r g hb⟩
 ·obtain rfl:q=p:=by simpa using hq
  exact⟨hp,ha.grown r g hb⟩
theorem CQ(w:World)(p:Ent×Value)(t:TypeId):∀ j u,(AY p)[j]?=some u→(w.alloc (.cells #[.string p.1.key,p.2] t)).cell? ((⟨w.heap.size,0,none⟩:Addr).add j)=some u:=by
 intro j u hj
 obtain⟨hj2,rfl⟩:=List.getElem?_eq_some_iff.1 hj
 match j,hj2 with
 | 0,_=>simp [Addr.add,AY]
 | 1,_=>simp [Addr.add,AY]
theorem Ents.flat{w:World}{B:Nat}{a:Addr}{n c:Nat}{l:List Ent}(h:Ents w B (.slice (some a) n c) l):
  ∃ P:List (Ent×Value),P.map (·.1)=l∧(∀ p∈P,p.1.key.size≤maxLen∧p.1.L.length≤maxLen∧Vers w B p.2 p.1.L)∧∀ j u,(P.flatMap AY)[j]?=some u→w.cell? (a.add j)=some u:=by
 obtain⟨A,c',e,-,-,ok,f⟩:=h
 injection e with e1 e2 e3
 have each:∀ i,i<l.length→∃ p:Ent×Value,(∀ h:i<l.length,p.1=l[i])∧Vers w B p.2 p.1.L∧w.cell? (a.add (i*2))=some (.string p.1.key)∧w.cell? ⟨(a.add (i*2)).block,(a.add (i*2)).off+1,none⟩=some p.2:=by
  intro i hi
  obtain⟨a',ea,-,h1,u,h2,h3⟩:=f i hi
  rw [← e1] at ea
  injection ea with ea
  subst ea
  exact⟨(l[i],u),fun _=>rfl,h3,h1,h2⟩
 obtain⟨P,hP,hp⟩:=DG l.length each
 have hmap:P.map (·.1)=l:=by
  refine List.ext_getElem (by rw [List.length_map,hP]) fun i h1 h2=>?_
  rw [List.getElem_map]
  exact(hp i (by rw [hP];exact h2)).1 h2
 refine⟨P,hmap,fun p hm=>?_,fun j u hu=>?_⟩
 ·obtain⟨k,hk,rfl⟩:=List.getElem_of_mem hm
  have hmem:P[k].1∈l:=by rw [← hmap];exact List.mem_map.2 ⟨_,hm,rfl⟩
  exact⟨(ok _ hmem).1,(ok _ hmem).2,(hp k hk).2.1⟩
 ·obtain⟨hj,-⟩:=List.getElem?_eq_some_iff.1 hu
  rw [CY] at hj
  have hk:j/2<P.length:=by omega
  have hj2:j=j/2*2+j%2:=by omega
  rw [hj2,EU P _ hk (by omega)] at hu
  obtain⟨-,-,c0,c1⟩:=hp (j/2) hk
  have hr:j%2<2:=by omega
  rw [hj2]
  match hm:j%2,hr with
  | 0,_=>rw [hm] at hu;simp [AY] at hu;rw [Nat.add_zero,c0,← hu]
  | 1,_=>
    rw [hm] at hu;simp [AY] at hu
    have hadd:a.add (j/2*2+1)=⟨(a.add (j/2*2)).block,(a.add (j/2*2)).off+1,none⟩:=by
     rw [Ai _ (by omega),AG]
     unfold Addr.add
     split
     ·simp [*]
     ·simp [Nat.add_assoc]
    rw [hadd,c1,← hu]
theorem J6{H:Type}{enc:TypeId×Value→H}{W:World}{n:Nat}{v:Value}{y:DataW H×List MemPlace}
  (hf:DataW.trod enc Tryz.prog W 0 (fun _=>true) true n 77 [v]=some y):∃ l:List Ver,Vers W W.heap.size v l∧l.length≤maxLen:=by
 rcases Deep.open_slice Tryz.underlying77 hf with⟨hcs,hx⟩ | ⟨a,len',cap',m,n,D,Pl,hcs,_,hl,hm,hmm,hx,hel⟩
 ·simp at hcs
  subst hcs
  exact⟨[],Vers.nil _ _,by simp⟩
 ·simp at hcs
  subst hcs
  have each:∀ i,i<len'→∃ x:Ver,okV x∧At W (a.add (i*4)) x:=by
   intro i hi
   obtain⟨cs',h1,h2⟩:=hel i (by rw [hmm];simp;omega)
   rw [Nl] at h1
   obtain⟨-,hlen4,hcell⟩:=World.cells?_some h1
   obtain⟨y0,y1,y2,y3,n',-,-,g0,g1,g2,g3⟩:=Joins.trod_struct4 Tryz.underlying49 h2
   obtain⟨v0,v1,v2,v3,rfl⟩:∃ a b c d,cs'=[a,b,c,d]:=by
    match cs',hlen4 with
    | [a,b,c,d],_=>exact⟨a,b,c,d,rfl⟩
   have c0:Tryz.prog.cellsOf 24=1:=by kernel_rfl
   have c1:Tryz.prog.cellsOf 9=1:=by kernel_rfl
   have c2:Tryz.prog.cellsOf 4=1:=by kernel_rfl
   have c3:Tryz.prog.cellsOf 3=1:=by kernel_rfl
   simp [c0,c1,c2,c3] at g0 g1 g2 g3
   obtain⟨i',e0,-,w0⟩:=DataW.trod_int Tryz.underlying24 g0
   obtain⟨s',e1,-,w1⟩:=DataW.trod_string Tryz.underlying9 g1
   obtain⟨m',e2,-⟩:=DataW.trod_bool Tryz.underlying4 g2
   obtain⟨t',e3,-,w3⟩:=DataW.trod_int Tryz.underlying3 g3
   simp at e0 e1 e2 e3
   subst e0 e1 e2 e3
   obtain⟨i',rfl,hi'⟩:=OQ w0
   refine⟨⟨i',s',m',t'⟩,⟨hi',w1,OR w3⟩,?_,?_,?_,?_⟩
   ·exact hcell 0 (by omega)
   ·exact(congrArg W.cell? (Ai _ (by omega:0<1)).symm).trans (hcell 1 (by omega))
   ·exact(congrArg W.cell? (Ai _ (by omega:0<2)).symm).trans (hcell 2 (by omega))
   ·exact(congrArg W.cell? (Ai _ (by omega:0<3)).symm).trans (hcell 3 (by omega))
  obtain⟨l,hlen,hp⟩:=DG len' each
  refine⟨l,⟨some a,cap',by rw [hlen],by omega,(by simp),?_,fun k hk=>⟨a,rfl,?_,(hp k hk).2⟩⟩,by omega⟩
  ·intro x hx
   obtain⟨k,hk,rfl⟩:=List.getElem_of_mem hx
   exact(hp k hk).1
  ·have:=World.block_lt_of_cell? W _ (hp k hk).2.1
   rw [AG] at this;exact this
theorem NJ{H:Type}{enc:TypeId×Value→H}{W:World}{n:Nat}{v:Value}{y:DataW H×List MemPlace}
  (hf:DataW.trod enc Tryz.prog W 0 (fun _=>true) true n 22 [v]=some y):∃ l:List Ent,Ents W W.heap.size v l∧l.length≤maxLen:=by
 rcases Deep.open_slice Tryz.underlying22 hf with⟨hcs,hx⟩ | ⟨a,len',cap',m,n,D,Pl,hcs,_,hl,hm,hmm,hx,hel⟩
 ·simp at hcs
  subst hcs
  exact⟨[],Ents.nil _ _,by simp⟩
 ·simp at hcs
  subst hcs
  have each:∀ i,i<len'→∃ x:Ent,okE x∧AtE W W.heap.size (a.add (i*2)) x:=by
   intro i hi
   obtain⟨cs',h1,h2⟩:=hel i (by rw [hmm];simp;omega)
   rw [Np] at h1
   obtain⟨-,hlen4,hcell⟩:=World.cells?_some h1
   obtain⟨y0,y1,n',-,-,g0,g1⟩:=trod_struct2 Tryz.underlying79 h2
   obtain⟨v0,v1,rfl⟩:∃ a b,cs'=[a,b]:=by
    match cs',hlen4 with
    | [a,b],_=>exact⟨a,b,rfl⟩
   have c1:Tryz.prog.cellsOf 9=1:=by kernel_rfl
   have c2:Tryz.prog.cellsOf 77=1:=by kernel_rfl
   simp [c1,c2] at g0 g1
   obtain⟨s',e1,-,w1⟩:=DataW.trod_string Tryz.underlying9 g0
   simp at e1
   subst e1
   obtain⟨L,hL,hm⟩:=J6 g1
   refine⟨⟨s',L⟩,⟨w1,hm⟩,hcell 0 (by omega),v1,?_,hL⟩
   exact(congrArg W.cell? (Ai _ (by omega:0<1)).symm).trans (hcell 1 (by omega))
  obtain⟨l,hlen,hp⟩:=DG len' each
  refine⟨l,⟨some a,cap',by rw [hlen],by omega,(by simp),?_,fun k hk=>⟨a,rfl,?_,(hp k hk).2⟩⟩,by omega⟩
  ·intro x hx
   obtain⟨k,hk,rfl⟩:=List.getElem_of_mem hx
   exact(hp k hk).1
  ·have:=World.block_lt_of_cell? W _ (hp k hk).2.1
   rw [AG] at this;exact this
def ent(key:ByteArray)(u:Value):Value:=.agg #[.string key,u]
end
section
open Go.ChangeShapes Go.WideShapes Go.ChangeAt Go.RowKit
def IF(e:Ent):Ent:=⟨Cc e.key,Ga e.L⟩
def Gv(l:List Ent):List Ent:=(l.take 61).map IF
theorem NI(l:List Ent)(i:Nat)(h:i<l.length):(l.take (i+1)).map IF=(l.take i).map IF ++ [IF l[i]]:=by
 rw [List.take_succ_eq_append_getElem h,List.map_append];rfl
theorem OwnV.low{base b2:Nat}{w:World}{v:Value}{l:List Ver}(h:OwnV base w v l)(k:b2≤base):OwnV b2 w v l:=by
 rcases h.2 with⟨rfl,h0⟩ | ⟨g,cap,cur,rfl,hb,r⟩
 ·exact⟨h.1,.inl ⟨rfl,h0⟩⟩
 ·exact⟨h.1,.inr ⟨g,cap,cur,rfl,by omega,r⟩⟩
theorem GZ(l:List Ver):(Ga l).length≤21:=by rw [Ga,List.length_map,List.length_take];omega
theorem Px{l:List Ver}(h:∀ x∈l,okV x):∀ x∈Ga l,okV x:=by
 intro x hx
 rw [Ga,List.mem_map] at hx
 obtain⟨y,hy,rfl⟩:=hx
 exact RS (h y (List.mem_of_mem_take hy))
theorem P0(l:List Ent)(v:Value)(w:World)(hl:l.length≤maxLen)(ht:Ents w w.heap.size v l):
  Calls Tryz.prog 30 #[v] w fun e w'=>∃ v',e=.returned v'∧OwnE w.heap.size w' v' (Gv l)∧Q w w':=by
 obtain⟨A,c,rfl,-,-,hok,hcells⟩:=ht
 unfold maxLen at hl
 have HC:=AC hcells
 have HK:=AC hok
 clear hcells hok
 obtain⟨i0,hi,hz0,hz1,hz2⟩:=info_parts ER
 go_enter Tryz.func30,Tryz.ntmps30
 go_wp2_with fail
 go_loopw [3,4] (fun O I wr=>∃ i:Nat,i≤l.length∧i≤61∧I=.int .i64 i∧OwnE w.heap.size wr O ((l.take i).map IF)∧Q w wr) (fun _ I _=>61 - (intOf I).toNat)
 case atStart=>exact⟨0,Nat.zero_le _,by omega,rfl,OwnE.nil _ _,Q.refl _⟩
 case round=>
  obtain⟨i,hil,hi61,rfl,hown,hbel⟩:=hrel
  by_cases hlt:i<l.length
  ·by_cases h61:i<61
   ·obtain⟨a,rfl,ha,hat⟩:=HC.out i hlt
    have HW:=AC (NI l i hlt)
    have hx0:=HK.out _ (List.getElem_mem hlt)
    have hlen:((l.take i).map IF).length≤61:=by rw [List.length_map,List.length_take];omega
    obtain⟨x,hx⟩:∃ x,x=l[i]:=⟨_,rfl⟩
    rw [← hx] at hat HW hx0
    clear hx
    obtain⟨u,hu⟩:∃ u,w.cell? ⟨(a.add (i*2)).block,(a.add (i*2)).off+1,none⟩=some u∧Vers w w.heap.size u x.L:=hat.2
    obtain⟨hu1,hu2⟩:=hu
    have HV:=AC hu2.okAll'
    have hu0:=hat.1
    obtain⟨A2,n2,c2,rfl⟩:∃ A n c,u=.slice A n c:=by obtain⟨A,c,e⟩:=hu2.form;exact⟨A,_,c,e⟩
    have KS:Hid (∀ d,Q w d→(fun w'=>w'.cell? (a.add (i*2))=some (.string x.key)∧w'.cell? ⟨(a.add (i*2)).block,(a.add (i*2)).off+1,none⟩=some (.slice A2 n2 c2)∧Q w w') d):=AC (fun d q=>⟨(q.cell (p:=a.add (i*2)) (by rw [AG];exact ha)).trans hu0,(q.cell (p:=⟨(a.add (i*2)).block,(a.add (i*2)).off+1,none⟩) (by show(a.add (i*2)).block<_;rw [AG];exact ha)).trans hu1,q⟩)
    have FS:=AC fun d=>EV x.key d hx0.1
    have FV:Hid (∀ d,Q w d→Calls Tryz.prog 72 #[.slice A2 n2 c2] d fun e w'=>∃ v',e=.returned v'∧OwnV d.heap.size w' v' (Ga x.L)∧Q d w'):=AC (fun d q=>Rr x.L _ d hx0.2 (hu2.on q))
    have hilt:(i:Int)<(l.length:Int):=by omega
    have hi61':(i:Int)<61:=by omega
    clear hat hu0 hu1 hu2
    go_wp2_with fail
    refine wp_region_held_drew (S:=(fun w'=>w'.cell? (a.add (i*2))=some (.string x.key)∧w'.cell? ⟨(a.add (i*2)).block,(a.add (i*2)).off+1,none⟩=some (.slice A2 n2 c2)∧Q w w')) (by kernel_rfl) (KS.out _ hbel.drew) (fun hHeld=>?_)
    refine tkV 0 ?_
    refine tkV 1 ?_
    refine tkV 2 ?_
    refine tkV 3 ?_
    refine tkV 4 ?_
    refine tkV 5 ?_
    refine tkV 7 ?_
    refine tkV 8 ?_
    refine tkV 9 ?_
    refine tkV 10 ?_
    refine tkV 11 ?_
    refine aR [6] ?_
    refine aC rfl (fun K hK=>?_) aN
    go_simp
    go_at_call 22
    refine(FS.out _).mono ?_
    rintro e wa ⟨rfl,rfl⟩
    refine hK.out _ _ (KS.out _ hbel.drew) (fun hHeld=>?_)
    clear hK K
    refine pg ?_
    refine aR [12] ?_
    refine aC rfl (fun K hK=>?_) aN
    go_simp
    go_at_call 72
    refine(FV.out _ hbel.drew).mono ?_
    rintro e wb ⟨v5,rfl,o5,q5⟩
    obtain⟨A5,n5,c5,rfl⟩:∃ A n c,v5=.slice A n c:=by obtain⟨A,c,e⟩:=Ae o5;exact⟨A,_,c,e⟩
    have b5:Q w wb:=hbel.drew.trans q5
    refine hK.out _ _ (KS.out _ b5) (fun hHeld=>?_)
    clear hK K
    refine pg ?_
    refine tkV 13 ?_
    refine aR [14] ?_
    refine aC rfl (fun K hK=>?_) aN
    go_simp
    refine hK.out _ _ (KS.out _ (b5.alloc _)) (fun hHeld=>?_)
    clear hK K
    refine pg ?_
    refine aR [15] ?_
    refine aC rfl (fun K hK=>?_) aN
    rw [if_pos (by rfl)]
    have hs:=b5.size
    obtain⟨P,hP,hr,hf⟩:=OwnE.on hown ((Q.refl wr).drew.trans q5) hbel.size
    have hPl:P.length≤61:=by rw [← List.length_map (f:=(·.1)),hP];exact hlen
    have ap5:Apt w.heap.size wb (.slice A5 n5 c5) (Ga x.L):=⟨Px HV.out,by have:=GZ x.L;unfold maxLen;omega,.inr (OwnV.low o5 (by simpa using hbel.size))⟩
    refine wp_append_own _ _ _ 22 rfl w.heap.size 79 i0 (.agg #[.string ⟨#[]⟩,.slice none 0 0]) 2 40 Tryz.underlying22 hi hz0 hz1 hz2 rfl (by decide) _ _ _ rfl (World.ownsRow.alloc hr _) ⟨wb.heap.size,0,none⟩ 1 1 (AY (IF x,.slice A5 n5 c5)) rfl rfl (CQ wb (IF x,.slice A5 n5 c5) _) (Bq ⟨_,_,_,rfl⟩) (by unfold maxLen;omega) (by omega) (by simp;omega) ?_
    intro v6 wc h1 h2 _
    have hfa:∀ q∈P,q.1.key.size≤maxLen∧Apt w.heap.size (wb.alloc (.cells #[.string (Cc x.key),.slice A5 n5 c5] 79)) q.2 q.1.L:=fun q hq=>⟨(hf q hq).1,(hf q hq).2.on ((Q.refl wb).alloc _) hs⟩
    have r6:OwnE w.heap.size wc v6 _:=OwnE.snoc (p:=(IF x,.slice A5 n5 c5)) (RowE.on hr ((Q.refl wb).alloc _)) hfa (by have:=Bl x.key;unfold maxLen;show(Cc x.key).size≤_;omega) (ap5.on ((Q.refl wb).alloc _) hs) (by simpa using h1) h2 (by simp;omega)
    rw [hP,← HW.out] at r6
    have b6:Q w wc:=CI (b5.alloc _) (by simp;omega) (RowE.on hr ((Q.refl wb).alloc _)) h2
    clear h1 h2 hfa ap5
    refine hK.out _ _ (KS.out _ b6) (fun hHeld=>?_)
    clear hK K
    refine pg ?_
    refine tkV 16 ?_
    refine wpAnyH_done (by kernel_rfl) ?_ _
    go_wp2_with fail
    go_roundw
    case rel=>exact⟨i+1,by omega,by omega,by go_num,r6,b6⟩
    case measure=>simp [intOf];omega
   ·have HW:Hid (Gv l=(l.take i).map IF):=AC (by rw [Gv,show i=61 by omega])
    have h2:¬ (i:Int)<61:=by omega
    go_wp2
    go_ret
    exact⟨_,rfl,by rw [HW.out];exact hown,hbel⟩
  ·have HW:Hid (Gv l=(l.take i).map IF):=AC (by rw [Gv,List.take_of_length_le (by omega),List.take_of_length_le (by omega)])
   have h2:¬ (i:Int)<(l.length:Int):=by omega
   go_wp2
   go_ret
   exact⟨_,rfl,by rw [HW.out];exact hown,hbel⟩
end
section
open Go.ChangeShapes Go.WideShapes Go.ChangeAt Go.RowKit
theorem Ents.pick{w:World}{v:Value}{l:List Ent}(h:Ents w w.heap.size v l)(i:Nat)(hi:i<l.length):
  ∃ (a:Addr) (c:Nat),v=.slice (some a) l.length c∧a.block<w.heap.size∧∃ A2 c2,Vers w w.heap.size (.slice A2 l[i].L.length c2) l[i].L∧
   ∀ d,Q w d→d.cell? (a.add (i*2))=some (.string l[i].key)∧d.cell? ⟨(a.add (i*2)).block,(a.add (i*2)).off+1,none⟩=some (.slice A2 l[i].L.length c2):=by
 obtain⟨A,c,rfl,-,-,-,f⟩:=h
 obtain⟨a,rfl,ha,h1,u,h2,h3⟩:=f i hi
 obtain⟨A2,c2,rfl⟩:=h3.form
 refine⟨a,c,rfl,ha,A2,c2,h3,fun d q=>⟨?_,?_⟩⟩
 ·exact(q.cell (p:=a.add (i*2)) (by rw [AG];exact ha)).trans h1
 ·exact(q.cell (p:=⟨(a.add (i*2)).block,(a.add (i*2)).off+1,none⟩) (by show(a.add (i*2)).block<_;rw [AG];exact ha)).trans h2
def ltB(a b:ByteArray):Bool:=Op.bytesLess a.toList b.toList
def atE(l:List Ent)(key:ByteArray):Nat:=(l.filter fun e=>ltB e.key key).length
theorem Qo(l:List Ent)(key:ByteArray):atE l key≤l.length:=List.length_filter_le ..
theorem Sc{l:List Ent}{i:Nat}{key:ByteArray}(h:i<l.length)(k:ltB l[i].key key=true):atE (l.take (i+1)) key=atE (l.take i) key+1:=by
 rw [List.take_succ_eq_append_getElem h,atE,List.filter_append,List.filter_cons_of_pos (by simpa using k)];simp [atE]
theorem TY{l:List Ent}{i:Nat}{key:ByteArray}(h:i<l.length)(k:ltB l[i].key key=false):atE (l.take (i+1)) key=atE (l.take i) key:=by
 rw [List.take_succ_eq_append_getElem h,atE,List.filter_append,List.filter_cons_of_neg (by simp [k])];simp [atE]
theorem TX(l:List Ent)(key:ByteArray)(v:Value)(w:World)(hl:l.length≤1000)(ht:Ents w w.heap.size v l):
  Calls Tryz.prog 173 #[v,.string key] w fun e w'=>e=.returned (.int .i64 (atE l key:Nat))∧Q w w':=by
 have HT:=AC ht
 obtain⟨A,c,rfl⟩:=ht.form
 clear ht
 go_enter Tryz.func173,Tryz.ntmps173
 go_wp2_with fail
 go_loopw [5,10] (fun N I wr=>∃ i n:Nat,i≤l.length∧I=.int .i64 i∧N=.int .i64 n∧Hid (n=atE (l.take i) key)∧Q w wr) (fun _ I _=>l.length - (intOf I).toNat)
 case atStart=>exact⟨0,0,Nat.zero_le _,rfl,rfl,AC (by simp [atE]),Q.refl _⟩
 case round=>
  obtain⟨i,n,hil,rfl,rfl,HN,q⟩:=hrel
  by_cases hlt:i<l.length
  ·obtain⟨a,c',hv,ha,A2,c2,-,hat⟩:=HT.out.pick i hlt
   injection hv with e1 e2 e3
   subst e1 e3
   obtain⟨d0,d1⟩:=hat _ q
   have hn:n≤1000:=by have:=HN.out;have:=Qo (l.take i) key;rw [List.length_take] at this;omega
   clear hat
   obtain⟨L,hL⟩:∃ L,L=l[i].L.length:=⟨_,rfl⟩
   rw [← hL] at d1
   clear hL
   have HQ:=AC (fun o=>q.alloc o)
   cases hb:ltB l[i].key key with
   | true=>
     have HN2:Hid (n+1=atE (l.take (i+1)) key):=AC (by rw [Sc hlt hb,HN.out])
     obtain⟨x,hx⟩:∃ x,x=l[i].key:=⟨_,rfl⟩
     rw [← hx] at d0 hb
     unfold ltB at hb
     clear hx
     go_wp2
     go_roundw
     case rel=>exact⟨i+1,n+1,by omega,by go_num,by go_num,HN2,HQ.out _⟩
     case measure=>simp [intOf];omega
   | false=>
     have HN2:Hid (n=atE (l.take (i+1)) key):=AC (by rw [TY hlt hb,HN.out])
     obtain⟨x,hx⟩:∃ x,x=l[i].key:=⟨_,rfl⟩
     rw [← hx] at d0 hb
     unfold ltB at hb
     clear hx
     go_wp2
     go_roundw
     case rel=>exact⟨i+1,n,by omega,by go_num,rfl,HN2,HQ.out _⟩
     case measure=>simp [intOf];omega
  ·have HV:Hid (n=atE l key):=AC (by have:=HN.out;rwa [List.take_of_length_le (by omega)] at this)
   go_wp2
   go_ret
   exact⟨by rw [HV.out];rfl,q⟩
def JR(l:List Ver):Nat:=(l.map (fun x=>x.data.size)).sum
def Dn(l:List Ent):Nat:=(l.map (fun e=>e.L.length)).sum
def FQ(l:List Ent):Nat:=(l.map (fun e=>JR e.L)).sum
def By(l:List Ent):Prop:=l.length≤1000∧∀ e∈l,e.key.size≤1000∧e.L.length≤1000∧∀ x∈e.L,x.data.size≤100000
theorem Lv{α:Type}{f:α→Nat}{l:List α}{B:Nat}(h:∀ x∈l,f x≤B):(l.map f).sum≤l.length*B:=by
 induction l with
 | nil=>simp
 | cons x r ih=>
   have h1:=h x (by simp)
   have h2:=ih fun y hy=>h y (by simp [hy])
   simp only [List.map_cons,List.sum_cons,List.length_cons,Nat.add_mul,Nat.one_mul]
   omega
theorem GC{α:Type}{f:α→Nat}{l:List α}{i:Nat}(h:i<l.length):((l.take (i+1)).map f).sum=((l.take i).map f).sum+f l[i]:=by
 rw [List.take_succ_eq_append_getElem h,List.map_append,List.sum_append];simp
theorem Im{l:List Ver}(hl:l.length≤1000)(h:∀ x∈l,x.data.size≤100000)(i:Nat):JR (l.take i)≤100000000:=by
 have:=Lv (f:=fun x:Ver=>x.data.size) (l:=l.take i) (B:=100000) (fun x hx=>h x (List.mem_of_mem_take hx))
 have k:(l.take i).length≤1000:=by rw [List.length_take];omega
 have:=Nat.mul_le_mul_right 100000 k
 unfold JR;omega
theorem Pc{l:List Ent}(h:By l)(i:Nat):Dn (l.take i)≤1000000:=by
 have:=Lv (f:=fun e:Ent=>e.L.length) (l:=l.take i) (B:=1000) (fun x hx=>(h.2 x (List.mem_of_mem_take hx)).2.1)
 have k:(l.take i).length≤1000:=by rw [List.length_take];have:=h.1;omega
 have:=Nat.mul_le_mul_right 1000 k
 unfold Dn;omega
theorem In{l:List Ent}(h:By l)(i:Nat):FQ (l.take i)≤100000000000:=by
 have:=Lv (f:=fun e:Ent=>JR e.L) (l:=l.take i) (B:=100000000) (fun x hx=>by
  obtain⟨-,k1,k2⟩:=h.2 x (List.mem_of_mem_take hx)
  have:=Im k1 k2 x.L.length
  rwa [List.take_length] at this)
 have k:(l.take i).length≤1000:=by rw [List.length_take];have:=h.1;omega
 have:=Nat.mul_le_mul_right 100000000 k
 unfold FQ;omega
theorem Hm{l:List Ent}{i:Nat}(h:i<l.length):FQ (l.take (i+1))=FQ (l.take i)+JR l[i].L:=GC (f:=fun e:Ent=>JR e.L) h
theorem Hl{l:List Ver}{k:Nat}(h:k<l.length):JR (l.take (k+1))=JR (l.take k)+l[k].data.size:=GC (f:=fun e:Ver=>e.data.size) h
theorem Vers.pick{w:World}{A:Option Addr}{n c:Nat}{l:List Ver}(h:Vers w w.heap.size (.slice A n c) l)(i:Nat)(hi:i<l.length):
  ∃ a:Addr,A=some a∧a.block<w.heap.size∧∀ d,Q w d→At d (a.add (i*4)) l[i]:=by
 obtain⟨A',c',e,-,-,-,f⟩:=h
 injection e with e1 e2 e3
 obtain⟨a,rfl,ha,hat⟩:=f i hi
 exact⟨a,e1,ha,fun d q=>hat.keep (by rw [AG];exact ha) fun _ hp=>q.cell hp⟩
theorem Ou(l:List Ent)(v:Value)(w:World)(hs:By l)(ht:Ents w w.heap.size v l):
  Calls Tryz.prog 70 #[v] w fun e w'=>e=.returned (.int .i64 (FQ l:Nat))∧Q w w':=by
 have HT:=AC ht
 have HS:=AC hs
 have hl:=hs.1
 obtain⟨A,c,rfl⟩:=ht.form
 clear ht hs
 go_enter Tryz.func70,Tryz.ntmps70
 go_wp2_with fail
 go_loopw [3,4] (fun N I wr=>∃ i n:Nat,i≤l.length∧I=.int .i64 i∧N=.int .i64 n∧Hid (n=FQ (l.take i))∧Q w wr) (fun _ I _=>l.length - (intOf I).toNat)
 case atStart=>exact⟨0,0,Nat.zero_le _,rfl,rfl,AC (by simp [FQ]),Q.refl _⟩
 case round=>
  obtain⟨i,n,hil,rfl,rfl,HN,q⟩:=hrel
  by_cases hlt:i<l.length
  ·obtain⟨a,c',hv,ha,A2,c2,hvs,hat⟩:=HT.out.pick i hlt
   injection hv with e1 e2 e3
   subst e1 e3
   have hn:n≤100000000000:=by have:=HN.out;have:=In HS.out i;omega
   have HI:=AC (Hm hlt)
   have HE:=AC (HS.out.2 _ (List.getElem_mem hlt)).2
   have hL:=HE.out.1
   obtain⟨L,hLe⟩:∃ L,L=l[i].L:=⟨_,rfl⟩
   rw [← hLe] at hat hvs HI HE hL
   have HA:=AC hat
   have HV:=AC hvs
   have hilt:(i:Int)<(l.length:Int):=by omega
   clear hLe hat hvs
   go_wp2_with fail
   go_loopw [3,5] (fun N K wr2=>∃ k m:Nat,k≤L.length∧K=.int .i64 k∧N=.int .i64 m∧Hid (m=n+JR (L.take k))∧Q w wr2) (fun _ K _=>L.length - (intOf K).toNat)
   case atStart=>exact⟨0,n,Nat.zero_le _,rfl,rfl,AC (by simp [JR]),q⟩
   case round=>
    clear q
    obtain⟨k,m,hkl,rfl,rfl,HM,q⟩:=hrel
    obtain⟨d0,d1⟩:=HA.out _ q
    by_cases hlk:k<L.length
    ·obtain⟨a2,rfl,ha2,hat2⟩:=HV.out.pick k hlk
     obtain⟨c0,c1,c2',c3⟩:=hat2 _ q
     have hm:m≤200000000000:=by have:=HM.out;have:=Im HE.out.1 HE.out.2 k;omega
     have hx2:=HE.out.2 _ (List.getElem_mem hlk)
     have HM2:Hid (m+L[k].data.size=n+JR (L.take (k+1))):=AC (by rw [Hl hlk,HM.out];omega)
     obtain⟨x,hx⟩:∃ x,x=L[k]:=⟨_,rfl⟩
     rw [← hx] at c1 hx2 HM2
     clear hx hat2 c0 c2' c3
     go_wp2
     go_roundw
     case rel=>exact⟨k+1,m+x.data.size,by omega,by go_num,by go_num,HM2,q⟩
     case measure=>simp [intOf];omega
    ·have HN2:Hid (m=FQ (l.take (i+1))):=AC (by
      have:=HM.out
      rw [List.take_of_length_le (by omega)] at this
      rw [HI.out,← HN.out];exact this)
     go_wp2
     go_roundw
     case rel=>exact⟨i+1,m,by omega,by go_num,rfl,HN2,q⟩
     case measure=>simp [intOf];omega
  ·have HV:Hid (n=FQ l):=AC (by have:=HN.out;rwa [List.take_of_length_le (by omega)] at this)
   go_wp2
   go_ret
   exact⟨by rw [HV.out];rfl,q⟩
theorem Kj{l:List Ent}{i:Nat}(h:i<l.length):Dn (l.take (i+1))=Dn (l.take i)+l[i].L.length:=GC (f:=fun e:Ent=>e.L.length) h
theorem H0(l:List Ent)(v:Value)(w:World)(hs:By l)(ht:Ents w w.heap.size v l):
  Calls Tryz.prog 100 #[v] w fun e w'=>e=.returned (.tuple #[.int .i64 (Dn l:Nat),.int .i64 (FQ l:Nat)])∧Q w w':=by
 have HT:=AC ht
 have HS:=AC hs
 have hl:=hs.1
 obtain⟨A,c,rfl⟩:=ht.form
 clear ht hs
 go_enter Tryz.func100,Tryz.ntmps100
 go_wp2_with fail
 go_loopw [4,5,12] (fun V N I wr=>∃ i n s:Nat,i≤l.length∧I=.int .i64 i∧N=.int .i64 n∧V=.int .i64 s∧Hid (n=FQ (l.take i)∧s=Dn (l.take i))∧Q w wr) (fun _ _ I _=>l.length - (intOf I).toNat)
 case atStart=>exact⟨0,0,0,Nat.zero_le _,rfl,rfl,rfl,AC (by simp [FQ,Dn]),Q.refl _⟩
 case round=>
  obtain⟨i,n,s,hil,rfl,rfl,rfl,HN,q⟩:=hrel
  by_cases hlt:i<l.length
  ·obtain⟨a,c',hv,ha,A2,c2,hvs,hat⟩:=HT.out.pick i hlt
   injection hv with e1 e2 e3
   subst e1 e3
   have hn:n≤100000000000:=by have:=HN.out.1;have:=In HS.out i;omega
   have hs:s≤1000000:=by have:=HN.out.2;have:=Pc HS.out i;omega
   have HI:=AC (Hm hlt)
   have HJ:=AC (Kj hlt)
   have HE:=AC (HS.out.2 _ (List.getElem_mem hlt)).2
   have hL:=HE.out.1
   obtain⟨d0,d1⟩:=hat _ q
   obtain⟨x,hx⟩:∃ x,x=l[i].key:=⟨_,rfl⟩
   obtain⟨L,hLe⟩:∃ L,L=l[i].L:=⟨_,rfl⟩
   rw [← hLe] at d1 hvs HI HJ HE hL
   rw [← hx] at d0
   have HV:=AC hvs
   have hilt:(i:Int)<(l.length:Int):=by omega
   have q2:=q.alloc (.cells #[.string x,.slice A2 L.length c2] 79)
   clear hLe hat hvs hx
   go_wp2_with fail
   go_loopw [5,24] (fun N K wr2=>∃ k m:Nat,k≤L.length∧K=.int .i64 k∧N=.int .i64 m∧Hid (m=n+JR (L.take k))∧Q w wr2) (fun _ K _=>L.length - (intOf K).toNat)
   case atStart=>exact⟨0,n,Nat.zero_le _,rfl,rfl,AC (by simp [JR]),q2⟩
   case round=>
    clear q q2
    obtain⟨k,m,hkl,rfl,rfl,HM,q⟩:=hrel
    by_cases hlk:k<L.length
    ·obtain⟨a2,rfl,ha2,hat2⟩:=HV.out.pick k hlk
     obtain⟨c0,c1,c2',c3⟩:=hat2 _ q
     have hm:m≤200000000000:=by have:=HM.out;have:=Im HE.out.1 HE.out.2 k;omega
     have hx2:=HE.out.2 _ (List.getElem_mem hlk)
     have HM2:Hid (m+L[k].data.size=n+JR (L.take (k+1))):=AC (by rw [Hl hlk,HM.out];omega)
     obtain⟨x,hx⟩:∃ x,x=L[k]:=⟨_,rfl⟩
     rw [← hx] at c0 c1 c2' c3 hx2 HM2
     have q3:=q.alloc (.cells #[.int .u64 (x.id:Nat),.string x.data,.bool x.mark,.int .i64 x.tm] 49)
     clear hx hat2
     go_wp2
     go_roundw
     case rel=>exact⟨k+1,m+x.data.size,by omega,by go_num,by go_num,HM2,q3⟩
     case measure=>simp [intOf];omega
    ·have HN2:Hid (m=FQ (l.take (i+1))∧s+L.length=Dn (l.take (i+1))):=AC (by
      have:=HM.out
      rw [List.take_of_length_le (by omega)] at this
      rw [HI.out,HJ.out,← HN.out.1,← HN.out.2];exact⟨this,rfl⟩)
     go_wp2
     go_roundw
     case rel=>exact⟨i+1,m,s+L.length,by omega,by go_num,rfl,by go_num,HN2,q⟩
     case measure=>simp [intOf];omega
  ·have HV:Hid (n=FQ l∧s=Dn l):=AC (by have:=HN.out;rwa [List.take_of_length_le (by omega)] at this)
   go_wp2
   go_ret2
   exact⟨by rw [HV.out.1,HV.out.2];rfl,q⟩
end
section
open Go.ChangeShapes Go.WideShapes Go.ChangeAt Go.RowKit
def Gu{α:Type}(p:α→Bool)(l:List α):Int:=match l.findIdx? p with
 | some i=>(i:Nat)
 | none=>-1
theorem Jc{α:Type}{p:α→Bool}{l:List α}{i:Nat}(hl:i<l.length)(h:p l[i]=true)(k:∀ j (hj:j<i) (hl:j<l.length),p l[j]=false):Gu p l=i:=by
 have:l.findIdx? p=some i:=by
  rw [List.findIdx?_eq_some_iff_getElem]
  exact⟨hl,h,fun j hj=>by rw [k j hj (by omega)];simp⟩
 rw [Gu,this]
theorem Hr{α:Type}{p:α→Bool}{l:List α}(k:∀ j (hl:j<l.length),p l[j]=false):Gu p l = -1:=by
 have:l.findIdx? p=none:=by
  rw [List.findIdx?_eq_none_iff]
  intro x hx
  obtain⟨j,hj,rfl⟩:=List.getElem_of_mem hx
  exact k j hj
 rw [Gu,this]
def Cb(key:ByteArray):Ent→Bool:=fun e=>decide (e.key=key)
theorem DM(l:List Ent)(key:ByteArray):(Gu (Cb key) l = -1∧∀ j (hl:j<l.length),l[j].key≠key)∨
  ∃ i,∃ h:i<l.length,Gu (Cb key) l=i∧l[i].key=key∧∀ j (hj:j<i) (hl:j<l.length),l[j].key≠key:=by
 cases h:l.findIdx? (Cb key) with
 | some i=>
   right
   obtain⟨hi,hp,hk⟩:=List.findIdx?_eq_some_iff_getElem.1 h
   refine⟨i,hi,by rw [Gu,h],by simpa [Cb] using hp,fun j hj hl=>?_⟩
   have:=hk j hj
   simpa [Cb] using this
 | none=>
   left
   refine⟨by rw [Gu,h],fun j hl=>?_⟩
   have:=List.findIdx?_eq_none_iff.1 h _ (List.getElem_mem hl)
   simpa [Cb] using this
def BY(l:List Ent)(key:ByteArray):List Ver:=match l.find? (Cb key) with
 | some e=>e.L
 | none=>[]
theorem GX{l:List Ent}{key:ByteArray}{i:Nat}(hi:i<l.length)(k:l[i].key=key)(h:∀ j (hj:j<i) (hl:j<l.length),l[j].key≠key):BY l key=l[i].L:=by
 have:l.find? (Cb key)=some l[i]:=by
  rw [List.find?_eq_some_iff_getElem]
  exact⟨by simp [Cb,k],i,hi,rfl,fun j hj=>by simpa [Cb] using h j hj (by omega)⟩
 rw [BY,this]
theorem Db{l:List Ent}{key:ByteArray}(h:∀ j (hl:j<l.length),l[j].key≠key):BY l key=[]:=by
 have:l.find? (Cb key)=none:=by
  rw [List.find?_eq_none]
  intro x hx
  obtain⟨j,hj,rfl⟩:=List.getElem_of_mem hx
  simpa [Cb] using h j hj
 rw [BY,this]
theorem JZ{a b:ByteArray}(h:a≠b):(a.toList==b.toList)=false:=by rw [Jl];simpa using h
theorem Mu(a:ByteArray):(a.toList==a.toList)=true:=by simp
theorem Mw(k key:ByteArray)(u:Value)(hu:∃ A n c,u=.slice A n c)(B:Nat)(w:World)(hc:w.cell? ⟨B,0,none⟩=some (.string key))(hB:B<w.heap.size):
  Calls Tryz.prog 142 #[.agg #[.string k,u],.pointer (some ⟨B,0,none⟩)] w fun e w'=>e=.returned (.bool (decide (k=key)))∧Q w w':=by
 have HQ:=AC (fun o=>(Q.refl w).alloc o)
 have hne:B≠w.heap.size:=by omega
 obtain⟨A,n,c,rfl⟩:=hu
 by_cases h:k=key
 ·subst h
  have h1:=Mu k
  go_enter Tryz.func142,Tryz.ntmps142
  go_wp2
  go_ret
  exact⟨AE (by simp),HQ.out _⟩
 ·have h1:=JZ h
  have h2:¬ k.toList=key.toList:=by simpa using h1
  have HV:Hid (decide (k=key)=false):=AC (by simp [h])
  clear h
  go_enter Tryz.func142,Tryz.ntmps142
  go_wp2
  go_ret
  exact⟨AE (by rw [HV.out]),HQ.out _⟩
theorem TL:∀ args w,(callFunc 142 args).run Tryz.prog w=.ok (.enter 142 args) w:=enters_of Tryz.func142 (by kernel_rfl) rfl
theorem Fd(g B:Nat)(p:ByteArray→Bool)(l:List Ent)(v:Value)(w:World)(eg:∀ args w,(callFunc g args).run Tryz.prog w=.ok (.enter g args) w)
  (hp:∀ k A n c b,Q w b→Calls Tryz.prog g #[.agg #[.string k,.slice A n c],.pointer (some ⟨B,0,none⟩)] b fun e w'=>e=.returned (.bool (p k))∧Q b w')
  (hl:l.length≤1000) (ht:Ents w w.heap.size v l) :
  Calls Tryz.prog 141 #[v,.func (.func g) #[] #[.pointer (some ⟨B,0,none⟩)]] w fun e w'=>e=.returned (.int .i64 (Gu (fun e=>p e.key) l))∧Q w w':=by
 have HT:=AC ht
 have HP:=AC hp
 obtain⟨A,c,rfl⟩:=ht.form
 clear ht hp
 go_enter Tryz.func141,Tryz.ntmps141
 go_wp2_with fail
 go_loopw [5,8] (fun _ I wr=>∃ i:Nat,i≤l.length∧I=.int .i64 i∧Q w wr∧Hid (∀ j (hj:j<i) (hl:j<l.length),p l[j].key=false)) (fun _ I _=>l.length - (intOf I).toNat)
 case atStart=>exact⟨0,Nat.zero_le _,rfl,Q.refl _,AC (fun j h=>by omega)⟩
 case round=>
  obtain⟨i,hil,rfl,q,HK⟩:=hrel
  by_cases hlt:i<l.length
  ·obtain⟨a,c',hv,ha,A2,c2,hvs,hat⟩:=HT.out.pick i hlt
   injection hv with e1 e2 e3
   subst e1 e3
   obtain⟨d0,d1⟩:=hat _ q
   cases hpx:p l[i].key with
   | true=>
     have HV:=AC (Jc (p:=fun e:Ent=>p e.key) hlt hpx HK.out)
     have C:=HP.out l[i].key A2 l[i].L.length c2 wr q
     rw [hpx] at C
     obtain⟨x,hx⟩:∃ x,x=l[i].key:=⟨_,rfl⟩
     obtain⟨L,hLe⟩:∃ L,L=l[i].L:=⟨_,rfl⟩
     rw [← hx] at d0 C hpx
     rw [← hLe] at d1 C
     have C:=AC C
     clear hx hLe hpx hat hvs
     go_wp2_with (go_at_fn g;refine(C.out).mono ?_;rintro e w1 ⟨rfl,q1⟩)
     go_ret
     exact⟨by rw [HV.out];rfl,q.trans q1⟩
   | false=>
     have HK2:Hid (∀ j (hj:j<i+1) (hl:j<l.length),p l[j].key=false):=AC (fun j hj hl=>by
      by_cases e:j=i
      ·subst e;exact hpx
      ·exact HK.out j (by omega) hl)
     have C:=HP.out l[i].key A2 l[i].L.length c2 wr q
     rw [hpx] at C
     obtain⟨x,hx⟩:∃ x,x=l[i].key:=⟨_,rfl⟩
     obtain⟨L,hLe⟩:∃ L,L=l[i].L:=⟨_,rfl⟩
     rw [← hx] at d0 C hpx
     rw [← hLe] at d1 C
     have C:=AC C
     clear hx hLe hpx hat hvs
     go_wp2_with (go_at_fn g;refine(C.out).mono ?_;rintro e w1 ⟨rfl,q1⟩)
     go_roundw
     case rel=>exact⟨i+1,by omega,by go_num,q.trans q1,HK2⟩
     case measure=>simp [intOf];omega
  ·have HV:=AC (Hr (p:=fun e:Ent=>p e.key) (l:=l) (fun j hl=>HK.out j (by omega) hl))
   go_wp2
   go_ret
   exact⟨by rw [HV.out];rfl,q⟩
theorem Fl(l:List Ent)(v:Value)(key:ByteArray)(w:World)(hl:l.length≤1000)(ht:Ents w w.heap.size v l):
  Calls Tryz.prog 109 #[v,.string key] w fun e w'=>e=.returned (.int .i64 (Gu (Cb key) l))∧Q w w':=by
 have q0:Q w (w.alloc (.cells #[.string key] 9)):=(Q.refl w).alloc _
 have C:=AC (Fd 142 w.heap.size (fun k=>decide (k=key)) l v (w.alloc (.cells #[.string key] 9)) TL
  (fun k A n c b q=>Mw k key _ ⟨A,n,c,rfl⟩ w.heap.size b ((Below.cell q (p:=⟨w.heap.size,0,none⟩) (by simp)).trans (by simp)) (Nat.lt_of_lt_of_le (by simp) (Q.size q))) hl (ht.on q0))
 have hmf:=@HMF
 go_enter Tryz.func109,Tryz.ntmps109
 go_wp2_with fail
 refine(C.out).mono ?_
 rintro e w1 ⟨rfl,q1⟩
 go_wp2
 go_ret
 exact⟨rfl,q0.trans q1⟩
theorem Ds(l:List Ver)(v:Value)(w:World)(hl:l.length≤4000)(ht:Vers w w.heap.size v l):
  Calls Tryz.prog 110 #[v] w fun e w'=>∃ v',e=.returned v'∧OwnV w.heap.size w' v' l∧Q w w':=by
 have HT:=AC ht
 obtain⟨A,c,rfl⟩:=ht.form
 cases A with
 | none=>
   have hc:c=0∧l=[]:=by
    obtain⟨A',c',e,e0,ez,-,-⟩:=ht
    injection e with e1 e2 e3
    have:=ez e1.symm
    exact⟨by omega,List.length_eq_zero_iff.1 (by omega)⟩
   obtain⟨rfl,rfl⟩:=hc
   simp only [List.length_nil]
   have he:=fun w=>Lib.run_eql_slice_nil (P:=Tryz.prog) w 77 49 none 0 0 0 0 Tryz.underlying77
   go_enter Tryz.func110,Tryz.ntmps110
   go_wp2
   go_ret
   exact⟨_,rfl,OwnV.nil _ _,Q.refl _⟩
 | some a=>
   have q0:=(Q.refl w).alloc (.cells #[] 49)
   have hown:OwnV w.heap.size (w.alloc (.cells #[] 49)) (.slice (some ⟨w.heap.size,0,none⟩) 0 0) []:=World.ownsRow_made w #[] 0 (Nat.le_refl _) (by unfold maxLen;omega) (by simp)
   have HO:=AC hown
   have he:=fun w=>Lib.run_eql_slice_nil (P:=Tryz.prog) w 77 49 (some a) l.length c 0 0 Tryz.underlying77
   clear ht hown
   go_enter Tryz.func110,Tryz.ntmps110
   go_wp2_with (at_builtin;refine AZ _ rfl _ _ 77 Tryz.underlying77 rfl w.heap.size _ _ [] l rfl rfl HO.out (HT.out.below q0) ?hb ?ha ?_;(case hb=>simp);(case ha=>(try simp);omega);intro v2 w2 o2 g2;have b2:=BA q0 (by simp) HO.out g2;clear g2)
   go_ret
   exact⟨_,rfl,by simpa using o2,b2⟩
theorem Jg(l:List Ent)(key:ByteArray)(v:Value)(w:World)(hs:By l)(ht:Ents w w.heap.size v l):
  Calls Tryz.prog 59 #[v,.string key] w fun e w'=>∃ v',e=.returned v'∧OwnV w.heap.size w' v' (BY l key)∧Q w w':=by
 have HT:=AC ht
 have hl:=hs.1
 have C:=AC (Fl l v key w hl ht)
 obtain⟨A,c,rfl⟩:=ht.form
 rcases DM l key with⟨e,hk⟩ | ⟨i,hlt,e,hk,hkj⟩
 ·have HV:=AC (Db hk)
  rw [e] at C
  clear ht hs e hk
  go_enter Tryz.func59,Tryz.ntmps59
  go_wp2_with fail
  refine(C.out).mono ?_
  rintro e w1 ⟨rfl,q1⟩
  go_wp2
  go_ret
  exact⟨_,rfl,by rw [HV.out];exact OwnV.nil _ _,q1⟩
 ·have HV:=AC (GX hlt hk hkj)
  rw [e] at C
  have hm:=(hs.2 _ (List.getElem_mem hlt)).2.1
  obtain⟨a,c',hv,ha,A2,c2,hvs,hat⟩:=HT.out.pick i hlt
  injection hv with e1 e2 e3
  subst e1 e3
  obtain⟨L,hLe⟩:∃ L,L=l[i].L:=⟨_,rfl⟩
  rw [← hLe] at hvs hat HV hm
  have HA:=AC hat
  have CL:Hid (∀ d,Q w d→Calls Tryz.prog 110 #[.slice A2 L.length c2] d fun e w'=>∃ v',e=.returned v'∧OwnV d.heap.size w' v' L∧Q d w'):=AC (fun d q=>Ds L _ d (by omega) (hvs.on q))
  have hilt:(i:Int)<(l.length:Int):=by omega
  have hi0:¬ (i:Int)<0:=by omega
  clear ht hs e hk hkj hLe hvs hat hm
  go_enter Tryz.func59,Tryz.ntmps59
  go_wp2_with fail
  refine(C.out).mono ?_
  rintro e w1 ⟨rfl,q1⟩
  obtain⟨d0,d1⟩:=HA.out _ q1
  go_wp2_with fail
  refine(CL.out _ q1).mono ?_
  rintro e w2 ⟨v',rfl,o2,q2⟩
  go_wp2
  go_ret
  exact⟨_,rfl,by rw [HV.out];exact OwnV.low o2 q1.size,q1.trans q2⟩
theorem Ei(l:List Ent)(key:ByteArray)(v:Value)(w:World)(hs:By l)(ht:Ents w w.heap.size v l):
  Calls Tryz.prog 81 #[v,.string key] w fun e w'=>∃ v',e=.returned v'∧Vers w' w'.heap.size v' (BY l key)∧Q w w':=by
 have HT:=AC ht
 have hl:=hs.1
 obtain⟨A,c,rfl⟩:=ht.form
 clear ht hs
 go_enter Tryz.func81,Tryz.ntmps81
 go_wp2_with fail
 go_loopw [5] (fun I wr=>∃ i:Nat,i≤l.length∧I=.int .i64 i∧Q w wr∧Hid (∀ j (hj:j<i) (hl:j<l.length),l[j].key≠key)) (fun I _=>l.length - (intOf I).toNat)
 case atStart=>exact⟨0,Nat.zero_le _,rfl,Q.refl _,AC (fun j h=>by omega)⟩
 case round=>
  obtain⟨i,hil,rfl,q,HK⟩:=hrel
  by_cases hlt:i<l.length
  ·obtain⟨a,c',hv,ha,A2,c2,hvs,hat⟩:=HT.out.pick i hlt
   injection hv with e1 e2 e3
   subst e1 e3
   obtain⟨d0,d1⟩:=hat _ q
   by_cases hk:l[i].key=key
   ·have HV:=AC (GX hlt hk HK.out)
    rw [hk] at d0
    have h1:=Mu key
    obtain⟨L,hLe⟩:∃ L,L=l[i].L:=⟨_,rfl⟩
    rw [← hLe] at hvs d1 HV
    have HS:=AC (hvs.on q)
    clear hk hat hLe hvs
    go_wp2
    go_ret
    exact⟨_,rfl,by rw [HV.out];exact HS.out,q⟩
   ·have h1:=JZ hk
    have h2:¬ l[i].key.toList=key.toList:=by simpa using h1
    have HK2:Hid (∀ j (hj:j<i+1) (hl:j<l.length),l[j].key≠key):=AC (fun j hj hl=>by
     by_cases e:j=i
     ·subst e;exact hk
     ·exact HK.out j (by omega) hl)
    obtain⟨x,hx⟩:∃ x,x=l[i].key:=⟨_,rfl⟩
    rw [← hx] at d0 h1 h2
    clear hk hat hx d1 hvs
    go_wp2
    go_roundw
    case rel=>exact⟨i+1,by omega,by go_num,q,HK2⟩
    case measure=>simp [intOf];omega
  ·have HV:=AC (Db (l:=l) (key:=key) (fun j hl=>HK.out j (by omega) hl))
   go_wp2
   go_ret
   exact⟨_,rfl,by rw [HV.out];exact Vers.nil _ _,q⟩
end
end Go.Proofs.YtjjlbbfhmpbneaaGreat
