/-
  Parts and pieces: as values, as cells, as slices that are read, as rows that a call makes. Uploads: as values, as cells, as slices that are read, as rows that a call makes. What a part, an ID, a key may be: contracts of mayLay, mayBegin, and of the document's part, number. May an upload be? Contracts of the program's may and the document's One.
-/
import Derived.Test.YtjjlbbfhmpbneaaGreatLa
import Derived.Lib.AppendZerosOnto
import Derived.Lib.SliceRun
import Derived.Laws.AppendOwnNone
import Derived.Test.YtjjlbbfhmpbneaaGreatLb
import Derived.Deep.RegionHeld3
namespace Go.Proofs.YtjjlbbfhmpbneaaGreat
open AllReadyH renaming cons → aC, nil → aN
open Lib renaming hid → AC
set_option maxHeartbeats 16000000
set_option maxRecDepth 100000
set_option linter.unusedVariables false
set_option linter.unusedSimpArgs false
section
open Go.ChangeShapes Go.WideShapes Go.ChangeAt Go.RowKit
theorem Tl{a:Int}(h:(Lit.int .u32 a).wf=true):∃ n:Nat,a=n∧n<4294967296:=by
 have h2:0≤a∧a≤4294967295:=by simpa [Lit.wf,IntKind.min,IntKind.max,IntKind.signed,IntKind.bits] using h
 exact⟨a.toNat,by omega,by omega⟩
structure Prt where
 n:Int
 data:ByteArray
def prt(v:Prt):Value:=.agg #[.int .i64 v.n,.string v.data]
def pcl(v:Prt):List Value:=[.int .i64 v.n,.string v.data]
def De(v:Prt):Prop:=-9223372036854775808≤v.n∧v.n≤9223372036854775807∧v.data.size≤maxLen
def AtP(w:World)(p:Addr)(v:Prt):Prop:=
 w.cell? p=some (.int .i64 v.n)∧w.cell? ⟨p.block,p.off+1,none⟩=some (.string v.data)
def Prts(w:World)(B:Nat)(v:Value)(l:List Prt):Prop:=
 ∃ A c,v=.slice A l.length c∧l.length≤c∧(A=none→c=0)∧(∀ x∈l,De x)∧∀ k (h:k<l.length),∃ a:Addr,A=some a∧a.block<B∧AtP w (a.add (k*2)) l[k]
theorem AtP.keep{w w':World}{p:Addr}{v:Prt}(h:AtP w p v){B:Nat}(hp:p.block<B)(k:∀ p:Addr,p.block<B→w'.cell? p=w.cell? p):AtP w' p v:=
 ⟨(k p hp).trans h.1,(k ⟨p.block,p.off+1,none⟩ hp).trans h.2⟩
theorem Prts.keep{w w':World}{B:Nat}{v:Value}{l:List Prt}(h:Prts w B v l)(k:∀ p:Addr,p.block<B→w'.cell? p=w.cell? p):Prts w' B v l:=by
 obtain⟨A,c,e,e0,ez,eo,f⟩:=h
 refine⟨A,c,e,e0,ez,eo,fun i hi=>?_⟩
 obtain⟨a,e1,e2,e3⟩:=f i hi
 exact⟨a,e1,e2,e3.keep (by rw [AG];exact e2) k⟩
theorem Prts.below{w w':World}{B:Nat}{v:Value}{l:List Prt}(h:Prts w B v l)(k:Below B w w'):Prts w' B v l:=h.keep fun _ hp=>k.cell hp
theorem Prts.more{w:World}{B B':Nat}{v:Value}{l:List Prt}(h:Prts w B v l)(k:B≤B'):Prts w B' v l:=by
 obtain⟨A,c,e,e0,ez,eo,f⟩:=h
 refine⟨A,c,e,e0,ez,eo,fun i hi=>?_⟩
 obtain⟨a,e1,e2,e3⟩:=f i hi
 exact⟨a,e1,by omega,e3⟩
theorem Prts.on{w w':World}{v:Value}{l:List Prt}(h:Prts w w.heap.size v l)(k:Q w w'):Prts w' w'.heap.size v l:=(h.below k).more k.size
theorem Prts.nil(w:World)(B:Nat):Prts w B (.slice none 0 0) []:=⟨none,0,rfl,Nat.le_refl _,fun _=>rfl,by simp,fun k h=>absurd h (by simp)⟩
theorem Prts.okAll{w:World}{B:Nat}{v:Value}{l:List Prt}(h:Prts w B v l):∀ x∈l,De x:=by
 obtain⟨A,c,e,e0,ez,eo,f⟩:=h;exact eo
theorem Prts.form{w:World}{B:Nat}{v:Value}{l:List Prt}(h:Prts w B v l):∃ A c,v=.slice A l.length c:=by
 obtain⟨A,c,e,-⟩:=h;exact⟨A,c,e⟩
theorem Prts.pick{w:World}{v:Value}{l:List Prt}(h:Prts w w.heap.size v l)(i:Nat)(hi:i<l.length):
  ∃ (a:Addr) (c:Nat),v=.slice (some a) l.length c∧a.block<w.heap.size∧De l[i]∧∀ d,Q w d→AtP d (a.add (i*2)) l[i]:=by
 obtain⟨A,c,rfl,-,-,eo,f⟩:=h
 obtain⟨a,rfl,ha,h1⟩:=f i hi
 exact⟨a,c,rfl,ha,eo _ (List.getElem_mem hi),fun d q=>h1.keep (by rw [AG];exact ha) fun _ hp=>q.cell hp⟩
theorem LN:Tryz.prog.cellsOf 64=2:=by kernel_rfl
theorem Ka{H:Type}{enc:TypeId×Value→H}{W:World}{n:Nat}{v:Value}{y:DataW H×List MemPlace}
  (hf:DataW.trod enc Tryz.prog W 0 (fun _=>true) true n 105 [v]=some y):∃ l:List Prt,Prts W W.heap.size v l∧l.length≤maxLen:=by
 rcases Deep.open_slice Tryz.underlying105 hf with⟨hcs,hx⟩ | ⟨a,len',cap',m,n,D,Pl,hcs,_,hl,hm,hmm,hx,hel⟩
 ·simp at hcs
  subst hcs
  exact⟨[],Prts.nil _ _,by simp⟩
 ·simp at hcs
  subst hcs
  have each:∀ i,i<len'→∃ x:Prt,De x∧AtP W (a.add (i*2)) x:=by
   intro i hi
   obtain⟨cs',h1,h2⟩:=hel i (by rw [hmm];simp;omega)
   rw [LN] at h1
   obtain⟨-,hlen4,hcell⟩:=World.cells?_some h1
   obtain⟨y0,y1,n',-,-,g0,g1⟩:=trod_struct2 Tryz.underlying64 h2
   obtain⟨v0,v1,rfl⟩:∃ a b,cs'=[a,b]:=by
    match cs',hlen4 with
    | [a,b],_=>exact⟨a,b,rfl⟩
   have c0:Tryz.prog.cellsOf 3=1:=by kernel_rfl
   have c1:Tryz.prog.cellsOf 9=1:=by kernel_rfl
   simp [c0,c1] at g0 g1
   obtain⟨s0,e0,-,w0⟩:=DataW.trod_int Tryz.underlying3 g0
   obtain⟨s1,e1,-,w1⟩:=DataW.trod_string Tryz.underlying9 g1
   simp at e0 e1
   subst e0 e1
   refine⟨⟨s0,s1⟩,⟨(OR w0).1,(OR w0).2,w1⟩,?_,?_⟩
   ·exact hcell 0 (by omega)
   ·exact(congrArg W.cell? (Ai _ (by omega:0<1)).symm).trans (hcell 1 (by omega))
  obtain⟨l,hlen,hp⟩:=DG len' each
  refine⟨l,⟨some a,cap',by rw [hlen],by omega,(by simp),?_,fun k hk=>⟨a,rfl,?_,(hp k hk).2⟩⟩,by omega⟩
  ·intro x hx
   obtain⟨k,hk,rfl⟩:=List.getElem_of_mem hx
   exact(hp k hk).1
  ·have:=World.block_lt_of_cell? W _ (hp k hk).2.1
   rw [AG] at this;exact this
theorem DU:(Tryz.prog.info? 64).map (fun i=>(i.zero,i.size,i.bytes))=some (some (.agg #[.int .i64 0,.string ⟨#[]⟩]),2,24):=by kernel_rfl
def OwnP(base:Nat)(w:World)(v:Value)(l:List Prt):Prop:=w.ownsRow base 64 2 v l.length (l.flatMap pcl)
theorem OwnP.nil(base:Nat)(w:World):OwnP base w (.slice none 0 0) []:=World.ownsRow_nil w _ _ _
theorem Jh(l:List Prt):(l.flatMap pcl).length=l.length*2:=by
 induction l with
 | nil=>rfl
 | cons x r ih=>rw [List.flatMap_cons,List.length_append,ih,List.length_cons,show(pcl x).length=2 by rfl];omega
theorem E5(l:List Prt)(k:Nat)(h:k<l.length){j:Nat}(hj:j<2):(l.flatMap pcl)[k*2+j]?=(pcl l[k])[j]?:=by
 induction l generalizing k with
 | nil=>simp at h
 | cons x r ih=>
   rw [List.flatMap_cons]
   cases k with
   | zero=>rw [List.getElem?_append_left (by rw [show(pcl x).length=2 by rfl];omega)];simp
   | succ k=>
     rw [List.getElem?_append_right (by rw [show(pcl x).length=2 by rfl];omega),show(k+1)*2+j - (pcl x).length=k*2+j by rw [show(pcl x).length=2 by rfl];omega,ih k (by simpa using h)]
     rfl
theorem OwnP.read{base:Nat}{w:World}{v:Value}{l:List Prt}(h:OwnP base w v l)(hl:∀ x∈l,De x):Prts w w.heap.size v l:=by
 rcases h.2 with⟨rfl,h0⟩ | ⟨g,cap,cur,rfl,hb,hg,h1,h2,h3,h4⟩
 ·rw [List.length_eq_zero_iff.1 h0];exact Prts.nil _ _
 ·refine⟨_,_,rfl,h1,(by simp),hl,fun k hk=>⟨⟨g,0,none⟩,rfl,lt_of_block hg,?_⟩⟩
  have hc:∀ j,j<2→w.cell? ((⟨g,0,none⟩:Addr).add (k*2+j))=(pcl l[k])[j]?:=by
   intro j hj
   have:=E5 l k hk hj
   obtain⟨u,hu⟩:∃ u,(pcl l[k])[j]?=some u:=⟨_,List.getElem?_eq_getElem (by rw [show(pcl l[k]).length=2 by rfl];exact hj)⟩
   rw [hu] at this ⊢
   exact World.ownsRow.cells h (g:=g) rfl _ _ this
  have ha:∀ j,0<j→(⟨g,0,none⟩:Addr).add (k*2+j)=⟨((⟨g,0,none⟩:Addr).add (k*2)).block,((⟨g,0,none⟩:Addr).add (k*2)).off+j,none⟩:=by
   intro j hj
   rw [Ai _ (by omega),AG]
   unfold Addr.add
   split
   ·rename_i h0;simp [h0]
   ·simp [Nat.add_assoc]
  refine⟨hc 0 (by omega),?_⟩
  ·rw [← ha 1 (by omega)];exact hc 1 (by omega)
theorem OwnP.on{base:Nat}{w w':World}{v:Value}{l:List Prt}(h:OwnP base w v l)(q:Q w w'):OwnP base w' v l:=by
 rcases h.2 with⟨rfl,h0⟩ | ⟨g,cap,cur,rfl,hb,hg,h1,h2,h3,h4⟩
 ·exact⟨h.1,.inl ⟨rfl,h0⟩⟩
 ·exact⟨h.1,.inr ⟨g,cap,cur,rfl,hb,(q.block g (lt_of_block hg)).trans hg,h1,h2,h3,h4⟩⟩
theorem OwnP.low{base b2:Nat}{w:World}{v:Value}{l:List Prt}(h:OwnP base w v l)(k:b2≤base):OwnP b2 w v l:=by
 rcases h.2 with⟨rfl,h0⟩ | ⟨g,cap,cur,rfl,hb,r⟩
 ·exact⟨h.1,.inl ⟨rfl,h0⟩⟩
 ·exact⟨h.1,.inr ⟨g,cap,cur,rfl,by omega,r⟩⟩
theorem OwnP.form{base:Nat}{w:World}{v:Value}{l:List Prt}(h:OwnP base w v l):∃ A c,v=.slice A l.length c:=by
 rcases h.2 with⟨rfl,h0⟩ | ⟨g,cap,cur,rfl,-⟩
 ·exact⟨none,0,by rw [h0]⟩
 ·exact⟨_,_,rfl⟩
theorem If(x:Prt):∀ u∈pcl x,u.oneCell'=true:=by
 intro u hu
 simp [pcl] at hu
 rcases hu with rfl | rfl <;> rfl
theorem Hv(l:List Prt):∀ u∈l.flatMap pcl,u.oneCell'=true:=by
 intro u hu
 obtain⟨x,-,hx⟩:=List.mem_flatMap.1 hu
 exact If x u hx
theorem OwnP.onto{base k:Nat}{w2:World}{v2:Value}{L M:List Prt}(h1:w2.ownsRow base 64 2 v2 (L.length+k) (L.flatMap pcl++M.flatMap pcl))(hk:k=M.length):OwnP base w2 v2 (L++M):=by
 subst hk
 unfold OwnP
 rw [List.flatMap_append,List.length_append]
 exact h1
theorem OwnP.grown{base:Nat}{w0 wr w2:World}{v:Value}{L:List Prt}(hown:OwnP base wr v L)(hbel:Below base w0 wr)(hb:base≤wr.heap.size)(h2:wr.grownBy w2 v.ownBlock):Below base w0 w2:=
 hbel.grown h2 hb (fun k hk=>(World.ownsRow.lt hown k hk).1)
theorem Bo(w:World)(x:Prt)(t:TypeId):∀ j u,(pcl x)[j]?=some u→(w.alloc (.cells (pcl x).toArray t)).cell? ((⟨w.heap.size,0,none⟩:Addr).add j)=some u:=by
 intro j u hj
 obtain⟨hj2,rfl⟩:=List.getElem?_eq_some_iff.1 hj
 match j,hj2 with
 | 0,_=>simp [Addr.add,pcl]
 | 1,_=>simp [Addr.add,pcl]
theorem Prts.flat{w:World}{B:Nat}{a:Addr}{n c:Nat}{l:List Prt}(h:Prts w B (.slice (some a) n c) l):∀ j u,(l.flatMap pcl)[j]?=some u→w.cell? (a.add j)=some u:=by
 obtain⟨A,c',e,-,-,-,f⟩:=h
 injection e with e1 e2 e3
 intro j u hu
 obtain⟨hj,-⟩:=List.getElem?_eq_some_iff.1 hu
 rw [Jh] at hj
 have hk:j/2<l.length:=by omega
 obtain⟨a',ea,-,hat⟩:=f (j/2) hk
 rw [← e1] at ea
 injection ea with ea
 subst ea
 have hj2:j=j/2*2+j%2:=by omega
 rw [hj2,E5 l _ hk (by omega)] at hu
 have hadd:∀ r,0<r→a.add (j/2*2+r)=⟨(a.add (j/2*2)).block,(a.add (j/2*2)).off+r,none⟩:=by
  intro r hr
  rw [Ai _ (by omega),AG]
  unfold Addr.add
  split
  ·simp [*]
  ·simp [Nat.add_assoc]
 obtain⟨c0,c1⟩:=hat
 rw [hj2]
 have hr:j%2<2:=by omega
 match hm:j%2,hr with
 | 0,_=>rw [hm] at hu;simp [pcl] at hu;rw [Nat.add_zero,c0,← hu]
 | 1,_=>rw [hm] at hu;simp [pcl] at hu;rw [hadd 1 (by omega),c1,← hu]
theorem Ed(w:World)(base B:Nat)(t ty:TypeId)(htt:Tryz.prog.underlying t=some (.slice 64))(v:Value)(l m:List Prt){A:Option Addr}{n c:Nat}(h:OwnP base w v l)
  (g:Prts w B (.slice A n c) m) (hb:base≤w.heap.size) (hl:l.length+m.length≤4000) :
  ∃ v' w',(Builtin.append_ #[t,t] ty #[v,.slice A n c]).run Tryz.prog w=.ok v' w'∧OwnP base w' v' (l++m)∧w.grownBy w' v.ownBlock:=by
 obtain⟨i0,hi0,hz0,hz1,hz2⟩:=info_parts DU
 have hn:n=m.length:=by obtain⟨A',c',e,-⟩:=g;injection e
 subst hn
 cases A with
 | none=>
   have hm:m=[]:=by
    obtain⟨A',c',e,e0,ez,-,-⟩:=g
    injection e with e1 e2 e3
    have:=ez e1.symm
    exact List.length_eq_zero_iff.1 (by omega)
   subst hm
   have hc:c=0:=by
    obtain⟨A',c',e,e0,ez,-,-⟩:=g
    injection e with e1 e2 e3
    rw [e3];exact ez e1.symm
   subst hc
   exact⟨v,w,run_append_owned_none (P:=Tryz.prog) (w:=w) base t ty 64 i0 2 htt hi0 v _ _ h,by simpa using h,World.grownBy.refl w _⟩
 | some a=>
   obtain⟨v',w',h1,h2,h3,-⟩:=run_append_own (P:=Tryz.prog) w base t ty 64 i0 (.agg #[.int .i64 0,.string ⟨#[]⟩]) 2 24 htt hi0 hz0 hz1 hz2 rfl (by decide) v l.length (l.flatMap pcl) h a m.length c (m.flatMap pcl) (Jh m) g.flat (Hv m) (by unfold maxLen;omega) (by omega) hb
   exact⟨v',w',h1,OwnP.onto (M:=m) h2 rfl,h3⟩
theorem Ar{ops:Array Oper}{rest:List Oper}{o:Oper}{a:Act}{Q:Exit→Act→World→Prop}(w:World)(hgd:o.guard=none)(s x:Operand)(t:TypeId)
  (htt:Tryz.prog.underlying t=some (.slice 64)) (ho:o.op=.call {callee:=.builtin .append,args:=#[s,x],argTypes:=#[t,t]})
  (base B:Nat) (v:Value) (l m:List Prt) {A:Option Addr} {n c:Nat} (hs:a.eval s=v) (hx:a.eval x=.slice A n c) (h:OwnP base w v l)
  (g:Prts w B (.slice A n c) m) (hb:base≤w.heap.size) (hl:l.length+m.length≤4000)
  (k:∀ v' w',OwnP base w' v' (l++m)→w.grownBy w' v.ownBlock→wpList Tryz.prog ops Q rest (a.put o.dst v') w'):wpList Tryz.prog ops Q (o :: rest) a w:=by
 refine wpList_plain hgd fun K hK=>?_
 obtain⟨v',w',h1,h2,h3⟩:=Ed w base B t o.type htt v l m h g hb hl
 unfold Oper.wp execOp
 simp only [ho,resolve,invoke,builtin,Sem.run_bind,Sem.run_pure,Result.andThen_ok,List.map_toArray,List.map_cons,List.map_nil,hs,hx,h1]
 exact hK _ _ (k v' w' h2 h3)
theorem D0{ops:Array Oper}{rest:List Oper}{o:Oper}{a:Act}{Q:Exit→Act→World→Prop}(w:World)(hgd:o.guard=none)(s x:Operand)(t t2:TypeId)
  (htt:Tryz.prog.underlying t=some (.slice 64)) (ho:o.op=.call {callee:=.builtin .append,args:=#[s,x],argTypes:=#[t,t]})
  (base g:Nat) (v:Value) (l:List Prt) (y:Prt) {c:Nat} (hs:a.eval s=v) (hx:a.eval x=.slice (some ⟨g,0,none⟩) 1 c) (hgg:∀ j u,(pcl y)[j]?=some u→w.cell? ((⟨g,0,none⟩:Addr).add j)=some u) (h:OwnP base w v l)
  (hb:base≤w.heap.size) (hl:l.length≤4000)
  (k:∀ v' w',OwnP base w' v' (l ++ [y])→w.grownBy w' v.ownBlock→wpList Tryz.prog ops Q rest (a.put o.dst v') w'):wpList Tryz.prog ops Q (o :: rest) a w:=by
 refine wpList_plain hgd fun K hK=>?_
 obtain⟨i0,hi0,hz0,hz1,hz2⟩:=info_parts DU
 obtain⟨v',w',h1,h2,h3,-⟩:=run_append_own (P:=Tryz.prog) w base t o.type 64 i0 (.agg #[.int .i64 0,.string ⟨#[]⟩]) 2 24 htt hi0 hz0 hz1 hz2 rfl (by decide) v l.length (l.flatMap pcl) h ⟨g,0,none⟩ 1 c (pcl y) rfl hgg (If y) (by unfold maxLen;omega) (by omega) hb
 unfold Oper.wp execOp
 simp only [ho,resolve,invoke,builtin,Sem.run_bind,Sem.run_pure,Result.andThen_ok,List.map_toArray,List.map_cons,List.map_nil,hs,hx,h1]
 exact hK _ _ (k v' w' (OwnP.onto (M:=[y]) (by simpa using h2) rfl) h3)
structure Pce where
 n:Int
 tag:Nat
def pce(v:Pce):Value:=.agg #[.int .i64 v.n,.int .u32 (v.tag:Nat)]
def ccl(v:Pce):List Value:=[.int .i64 v.n,.int .u32 (v.tag:Nat)]
def okC(v:Pce):Prop:=-9223372036854775808≤v.n∧v.n≤9223372036854775807∧v.tag<4294967296
def AtC(w:World)(p:Addr)(v:Pce):Prop:=
 w.cell? p=some (.int .i64 v.n)∧w.cell? ⟨p.block,p.off+1,none⟩=some (.int .u32 (v.tag:Nat))
def Pces(w:World)(B:Nat)(v:Value)(l:List Pce):Prop:=
 ∃ A c,v=.slice A l.length c∧l.length≤c∧(A=none→c=0)∧(∀ x∈l,okC x)∧∀ k (h:k<l.length),∃ a:Addr,A=some a∧a.block<B∧AtC w (a.add (k*2)) l[k]
theorem AtC.keep{w w':World}{p:Addr}{v:Pce}(h:AtC w p v){B:Nat}(hp:p.block<B)(k:∀ p:Addr,p.block<B→w'.cell? p=w.cell? p):AtC w' p v:=
 ⟨(k p hp).trans h.1,(k ⟨p.block,p.off+1,none⟩ hp).trans h.2⟩
theorem Pces.keep{w w':World}{B:Nat}{v:Value}{l:List Pce}(h:Pces w B v l)(k:∀ p:Addr,p.block<B→w'.cell? p=w.cell? p):Pces w' B v l:=by
 obtain⟨A,c,e,e0,ez,eo,f⟩:=h
 refine⟨A,c,e,e0,ez,eo,fun i hi=>?_⟩
 obtain⟨a,e1,e2,e3⟩:=f i hi
 exact⟨a,e1,e2,e3.keep (by rw [AG];exact e2) k⟩
theorem Pces.below{w w':World}{B:Nat}{v:Value}{l:List Pce}(h:Pces w B v l)(k:Below B w w'):Pces w' B v l:=h.keep fun _ hp=>k.cell hp
theorem Pces.more{w:World}{B B':Nat}{v:Value}{l:List Pce}(h:Pces w B v l)(k:B≤B'):Pces w B' v l:=by
 obtain⟨A,c,e,e0,ez,eo,f⟩:=h
 refine⟨A,c,e,e0,ez,eo,fun i hi=>?_⟩
 obtain⟨a,e1,e2,e3⟩:=f i hi
 exact⟨a,e1,by omega,e3⟩
theorem Pces.on{w w':World}{v:Value}{l:List Pce}(h:Pces w w.heap.size v l)(k:Q w w'):Pces w' w'.heap.size v l:=(h.below k).more k.size
theorem Pces.nil(w:World)(B:Nat):Pces w B (.slice none 0 0) []:=⟨none,0,rfl,Nat.le_refl _,fun _=>rfl,by simp,fun k h=>absurd h (by simp)⟩
theorem Pces.okAll{w:World}{B:Nat}{v:Value}{l:List Pce}(h:Pces w B v l):∀ x∈l,okC x:=by
 obtain⟨A,c,e,e0,ez,eo,f⟩:=h;exact eo
theorem Pces.form{w:World}{B:Nat}{v:Value}{l:List Pce}(h:Pces w B v l):∃ A c,v=.slice A l.length c:=by
 obtain⟨A,c,e,-⟩:=h;exact⟨A,c,e⟩
theorem Pces.pick{w:World}{v:Value}{l:List Pce}(h:Pces w w.heap.size v l)(i:Nat)(hi:i<l.length):
  ∃ (a:Addr) (c:Nat),v=.slice (some a) l.length c∧a.block<w.heap.size∧okC l[i]∧∀ d,Q w d→AtC d (a.add (i*2)) l[i]:=by
 obtain⟨A,c,rfl,-,-,eo,f⟩:=h
 obtain⟨a,rfl,ha,h1⟩:=f i hi
 exact⟨a,c,rfl,ha,eo _ (List.getElem_mem hi),fun d q=>h1.keep (by rw [AG];exact ha) fun _ hp=>q.cell hp⟩
theorem Nn:Tryz.prog.cellsOf 67=2:=by kernel_rfl
theorem MU{H:Type}{enc:TypeId×Value→H}{W:World}{n:Nat}{v:Value}{y:DataW H×List MemPlace}
  (hf:DataW.trod enc Tryz.prog W 0 (fun _=>true) true n 27 [v]=some y):∃ l:List Pce,Pces W W.heap.size v l∧l.length≤maxLen:=by
 rcases Deep.open_slice Tryz.underlying27 hf with⟨hcs,hx⟩ | ⟨a,len',cap',m,n,D,Pl,hcs,_,hl,hm,hmm,hx,hel⟩
 ·simp at hcs
  subst hcs
  exact⟨[],Pces.nil _ _,by simp⟩
 ·simp at hcs
  subst hcs
  have each:∀ i,i<len'→∃ x:Pce,okC x∧AtC W (a.add (i*2)) x:=by
   intro i hi
   obtain⟨cs',h1,h2⟩:=hel i (by rw [hmm];simp;omega)
   rw [Nn] at h1
   obtain⟨-,hlen4,hcell⟩:=World.cells?_some h1
   obtain⟨y0,y1,n',-,-,g0,g1⟩:=trod_struct2 Tryz.underlying67 h2
   obtain⟨v0,v1,rfl⟩:∃ a b,cs'=[a,b]:=by
    match cs',hlen4 with
    | [a,b],_=>exact⟨a,b,rfl⟩
   have c0:Tryz.prog.cellsOf 3=1:=by kernel_rfl
   have c1:Tryz.prog.cellsOf 60=1:=by kernel_rfl
   simp [c0,c1] at g0 g1
   obtain⟨s0,e0,-,w0⟩:=DataW.trod_int Tryz.underlying3 g0
   obtain⟨s1,e1,-,w1⟩:=DataW.trod_int Tryz.underlying60 g1
   simp at e0 e1
   subst e0 e1
   obtain⟨s1,rfl,w1n⟩:=Tl w1
   refine⟨⟨s0,s1⟩,⟨(OR w0).1,(OR w0).2,w1n⟩,?_,?_⟩
   ·exact hcell 0 (by omega)
   ·exact(congrArg W.cell? (Ai _ (by omega:0<1)).symm).trans (hcell 1 (by omega))
  obtain⟨l,hlen,hp⟩:=DG len' each
  refine⟨l,⟨some a,cap',by rw [hlen],by omega,(by simp),?_,fun k hk=>⟨a,rfl,?_,(hp k hk).2⟩⟩,by omega⟩
  ·intro x hx
   obtain⟨k,hk,rfl⟩:=List.getElem_of_mem hx
   exact(hp k hk).1
  ·have:=World.block_lt_of_cell? W _ (hp k hk).2.1
   rw [AG] at this;exact this
def OwnC(base:Nat)(w:World)(v:Value)(l:List Pce):Prop:=w.ownsRow base 67 2 v l.length (l.flatMap ccl)
theorem OwnC.nil(base:Nat)(w:World):OwnC base w (.slice none 0 0) []:=World.ownsRow_nil w _ _ _
theorem Pu(l:List Pce):(l.flatMap ccl).length=l.length*2:=by
 induction l with
 | nil=>rfl
 | cons x r ih=>rw [List.flatMap_cons,List.length_append,ih,List.length_cons,show(ccl x).length=2 by rfl];omega
theorem Fv(l:List Pce)(k:Nat)(h:k<l.length){j:Nat}(hj:j<2):(l.flatMap ccl)[k*2+j]?=(ccl l[k])[j]?:=by
 induction l generalizing k with
 | nil=>simp at h
 | cons x r ih=>
   rw [List.flatMap_cons]
   cases k with
   | zero=>rw [List.getElem?_append_left (by rw [show(ccl x).length=2 by rfl];omega)];simp
   | succ k=>
     rw [List.getElem?_append_right (by rw [show(ccl x).length=2 by rfl];omega),show(k+1)*2+j - (ccl x).length=k*2+j by rw [show(ccl x).length=2 by rfl];omega,ih k (by simpa using h)]
     rfl
theorem OwnC.read{base:Nat}{w:World}{v:Value}{l:List Pce}(h:OwnC base w v l)(hl:∀ x∈l,okC x):Pces w w.heap.size v l:=by
 rcases h.2 with⟨rfl,h0⟩ | ⟨g,cap,cur,rfl,hb,hg,h1,h2,h3,h4⟩
 ·rw [List.length_eq_zero_iff.1 h0];exact Pces.nil _ _
 ·refine⟨_,_,rfl,h1,(by simp),hl,fun k hk=>⟨⟨g,0,none⟩,rfl,lt_of_block hg,?_⟩⟩
  have hc:∀ j,j<2→w.cell? ((⟨g,0,none⟩:Addr).add (k*2+j))=(ccl l[k])[j]?:=by
   intro j hj
   have:=Fv l k hk hj
   obtain⟨u,hu⟩:∃ u,(ccl l[k])[j]?=some u:=⟨_,List.getElem?_eq_getElem (by rw [show(ccl l[k]).length=2 by rfl];exact hj)⟩
   rw [hu] at this ⊢
   exact World.ownsRow.cells h (g:=g) rfl _ _ this
  have ha:∀ j,0<j→(⟨g,0,none⟩:Addr).add (k*2+j)=⟨((⟨g,0,none⟩:Addr).add (k*2)).block,((⟨g,0,none⟩:Addr).add (k*2)).off+j,none⟩:=by
   intro j hj
   rw [Ai _ (by omega),AG]
   unfold Addr.add
   split
   ·rename_i h0;simp [h0]
   ·simp [Nat.add_assoc]
  refine⟨hc 0 (by omega),?_⟩
  ·rw [← ha 1 (by omega)];exact hc 1 (by omega)
theorem OwnC.on{base:Nat}{w w':World}{v:Value}{l:List Pce}(h:OwnC base w v l)(q:Q w w'):OwnC base w' v l:=by
 rcases h.2 with⟨rfl,h0⟩ | ⟨g,cap,cur,rfl,hb,hg,h1,h2,h3,h4⟩
 ·exact⟨h.1,.inl ⟨rfl,h0⟩⟩
 ·exact⟨h.1,.inr ⟨g,cap,cur,rfl,hb,(q.block g (lt_of_block hg)).trans hg,h1,h2,h3,h4⟩⟩
theorem OwnC.low{base b2:Nat}{w:World}{v:Value}{l:List Pce}(h:OwnC base w v l)(k:b2≤base):OwnC b2 w v l:=by
 rcases h.2 with⟨rfl,h0⟩ | ⟨g,cap,cur,rfl,hb,r⟩
 ·exact⟨h.1,.inl ⟨rfl,h0⟩⟩
 ·exact⟨h.1,.inr ⟨g,cap,cur,rfl,by omega,r⟩⟩
theorem OwnC.form{base:Nat}{w:World}{v:Value}{l:List Pce}(h:OwnC base w v l):∃ A c,v=.slice A l.length c:=by
 rcases h.2 with⟨rfl,h0⟩ | ⟨g,cap,cur,rfl,-⟩
 ·exact⟨none,0,by rw [h0]⟩
 ·exact⟨_,_,rfl⟩
theorem OwnC.onto{base k:Nat}{w2:World}{v2:Value}{L M:List Pce}(h1:w2.ownsRow base 67 2 v2 (L.length+k) (L.flatMap ccl++M.flatMap ccl))(hk:k=M.length):OwnC base w2 v2 (L++M):=by
 subst hk
 unfold OwnC
 rw [List.flatMap_append,List.length_append]
 exact h1
theorem OwnC.grown{base:Nat}{w0 wr w2:World}{v:Value}{L:List Pce}(hown:OwnC base wr v L)(hbel:Below base w0 wr)(hb:base≤wr.heap.size)(h2:wr.grownBy w2 v.ownBlock):Below base w0 w2:=
 hbel.grown h2 hb (fun k hk=>(World.ownsRow.lt hown k hk).1)
theorem Pces.flat{w:World}{B:Nat}{a:Addr}{n c:Nat}{l:List Pce}(h:Pces w B (.slice (some a) n c) l):∀ j u,(l.flatMap ccl)[j]?=some u→w.cell? (a.add j)=some u:=by
 obtain⟨A,c',e,-,-,-,f⟩:=h
 injection e with e1 e2 e3
 intro j u hu
 obtain⟨hj,-⟩:=List.getElem?_eq_some_iff.1 hu
 rw [Pu] at hj
 have hk:j/2<l.length:=by omega
 obtain⟨a',ea,-,hat⟩:=f (j/2) hk
 rw [← e1] at ea
 injection ea with ea
 subst ea
 have hj2:j=j/2*2+j%2:=by omega
 rw [hj2,Fv l _ hk (by omega)] at hu
 have hadd:∀ r,0<r→a.add (j/2*2+r)=⟨(a.add (j/2*2)).block,(a.add (j/2*2)).off+r,none⟩:=by
  intro r hr
  rw [Ai _ (by omega),AG]
  unfold Addr.add
  split
  ·simp [*]
  ·simp [Nat.add_assoc]
 obtain⟨c0,c1⟩:=hat
 rw [hj2]
 have hr:j%2<2:=by omega
 match hm:j%2,hr with
 | 0,_=>rw [hm] at hu;simp [ccl] at hu;rw [Nat.add_zero,c0,← hu]
 | 1,_=>rw [hm] at hu;simp [ccl] at hu;rw [hadd 1 (by omega),c1,← hu]
end
section
open Go.ChangeShapes Go.WideShapes Go.ChangeAt Go.RowKit
structure Upl where
 id:Nat
 key:ByteArray
 L:List Prt
def AtU(w:World)(B:Nat)(p:Addr)(e:Upl):Prop:=
 w.cell? p=some (.int .u64 (e.id:Nat))∧w.cell? ⟨p.block,p.off+1,none⟩=some (.string e.key)∧∃ u,w.cell? ⟨p.block,p.off+2,none⟩=some u∧Prts w B u e.L
def okU(e:Upl):Prop:=e.id<18446744073709551616∧e.key.size≤maxLen∧e.L.length≤maxLen
def Upls(w:World)(B:Nat)(v:Value)(l:List Upl):Prop:=
 ∃ A c,v=.slice A l.length c∧l.length≤c∧(A=none→c=0)∧(∀ x∈l,okU x)∧∀ k (h:k<l.length),∃ a:Addr,A=some a∧a.block<B∧AtU w B (a.add (k*3)) l[k]
theorem AtU.below{w w':World}{B:Nat}{p:Addr}{e:Upl}(h:AtU w B p e)(hp:p.block<B)(k:Below B w w'):AtU w' B p e:=by
 obtain⟨h0,h1,u,hu,h3⟩:=h
 exact⟨(k.cell hp).trans h0,(k.cell (p:=⟨p.block,p.off+1,none⟩) hp).trans h1,u,(k.cell (p:=⟨p.block,p.off+2,none⟩) hp).trans hu,h3.below k⟩
theorem AtU.more{w:World}{B B':Nat}{p:Addr}{e:Upl}(h:AtU w B p e)(k:B≤B'):AtU w B' p e:=by
 obtain⟨h0,h1,u,hu,h3⟩:=h
 exact⟨h0,h1,u,hu,h3.more k⟩
theorem Upls.below{w w':World}{B:Nat}{v:Value}{l:List Upl}(h:Upls w B v l)(k:Below B w w'):Upls w' B v l:=by
 obtain⟨A,c,e,e0,ez,eo,f⟩:=h
 refine⟨A,c,e,e0,ez,eo,fun i hi=>?_⟩
 obtain⟨a,e1,e2,e3⟩:=f i hi
 exact⟨a,e1,e2,e3.below (by rw [AG];exact e2) k⟩
theorem Upls.more{w:World}{B B':Nat}{v:Value}{l:List Upl}(h:Upls w B v l)(k:B≤B'):Upls w B' v l:=by
 obtain⟨A,c,e,e0,ez,eo,f⟩:=h
 refine⟨A,c,e,e0,ez,eo,fun i hi=>?_⟩
 obtain⟨a,e1,e2,e3⟩:=f i hi
 exact⟨a,e1,by omega,e3.more k⟩
theorem Upls.on{w w':World}{v:Value}{l:List Upl}(h:Upls w w.heap.size v l)(k:Q w w'):Upls w' w'.heap.size v l:=(h.below k).more k.size
theorem Upls.nil(w:World)(B:Nat):Upls w B (.slice none 0 0) []:=⟨none,0,rfl,Nat.le_refl _,fun _=>rfl,by simp,fun k h=>absurd h (by simp)⟩
theorem Upls.okAll{w:World}{B:Nat}{v:Value}{l:List Upl}(h:Upls w B v l):∀ x∈l,okU x:=by
 obtain⟨A,c,e,e0,ez,eo,f⟩:=h;exact eo
theorem Upls.form{w:World}{B:Nat}{v:Value}{l:List Upl}(h:Upls w B v l):∃ A c,v=.slice A l.length c:=by
 obtain⟨A,c,e,-⟩:=h;exact⟨A,c,e⟩
theorem Upls.okIn{w:World}{B:Nat}{v:Value}{l:List Upl}(h:Upls w B v l):∀ x∈l,∀ y∈x.L,De y:=by
 obtain⟨A,c,e,e0,ez,eo,f⟩:=h
 intro x hx
 obtain⟨k,hk,rfl⟩:=List.getElem_of_mem hx
 obtain⟨a,-,-,hat⟩:=f k hk
 obtain⟨h0,h1,u,-,hu⟩:=hat
 exact hu.okAll
theorem Upls.pick{w:World}{v:Value}{l:List Upl}(h:Upls w w.heap.size v l)(i:Nat)(hi:i<l.length):
  ∃ (a:Addr) (c:Nat),v=.slice (some a) l.length c∧a.block<w.heap.size∧∃ A2 c2,Prts w w.heap.size (.slice A2 l[i].L.length c2) l[i].L∧
   ∀ d,Q w d→d.cell? (a.add (i*3))=some (.int .u64 (l[i].id:Nat))∧d.cell? ⟨(a.add (i*3)).block,(a.add (i*3)).off+1,none⟩=some (.string l[i].key)∧d.cell? ⟨(a.add (i*3)).block,(a.add (i*3)).off+2,none⟩=some (.slice A2 l[i].L.length c2):=by
 obtain⟨A,c,rfl,-,-,-,f⟩:=h
 obtain⟨a,rfl,ha,h0,h1,u,h2,hu⟩:=f i hi
 obtain⟨A2,c2,rfl⟩:=hu.form
 exact⟨a,c,rfl,ha,A2,c2,hu,fun d q=>⟨(q.cell (p:=a.add (i*3)) (by rw [AG];exact ha)).trans h0,(q.cell (p:=⟨(a.add (i*3)).block,(a.add (i*3)).off+1,none⟩) (by show(a.add (i*3)).block<_;rw [AG];exact ha)).trans h1,(q.cell (p:=⟨(a.add (i*3)).block,(a.add (i*3)).off+2,none⟩) (by show(a.add (i*3)).block<_;rw [AG];exact ha)).trans h2⟩⟩
theorem Nm:Tryz.prog.cellsOf 107=3:=by kernel_rfl
theorem EQ:(Tryz.prog.info? 107).map (fun i=>(i.zero,i.size,i.bytes))=some (some (.agg #[.int .u64 0,.string ⟨#[]⟩,.slice none 0 0]),3,48):=by kernel_rfl
def ucl(p:Upl×Value):List Value:=[.int .u64 (p.1.id:Nat),.string p.1.key,p.2]
def Dg(P:List (Upl×Value)):Prop:=∀ p∈P,∃ A n c,p.2=.slice A n c
theorem GY(P:List (Upl×Value)):(P.flatMap ucl).length=P.length*3:=by
 induction P with
 | nil=>rfl
 | cons x r ih=>rw [List.flatMap_cons,List.length_append,ih,List.length_cons,show(ucl x).length=3 by rfl];omega
theorem Bd(P:List (Upl×Value))(k:Nat)(h:k<P.length){j:Nat}(hj:j<3):(P.flatMap ucl)[k*3+j]?=(ucl P[k])[j]?:=by
 induction P generalizing k with
 | nil=>simp at h
 | cons x r ih=>
   rw [List.flatMap_cons]
   cases k with
   | zero=>rw [List.getElem?_append_left (by rw [show(ucl x).length=3 by rfl];omega)];simp
   | succ k=>
     rw [List.getElem?_append_right (by rw [show(ucl x).length=3 by rfl];omega),show(k+1)*3+j - (ucl x).length=k*3+j by rw [show(ucl x).length=3 by rfl];omega,ih k (by simpa using h)]
     rfl
theorem IM{p:Upl×Value}(h:∃ A n c,p.2=.slice A n c):∀ u∈ucl p,u.oneCell'=true:=by
 intro u hu
 obtain⟨A,n,c,e⟩:=h
 simp [ucl,e] at hu
 rcases hu with rfl | rfl | rfl <;> rfl
theorem E0{P:List (Upl×Value)}(h:Dg P):∀ u∈P.flatMap ucl,u.oneCell'=true:=by
 intro u hu
 obtain⟨x,hm,hx⟩:=List.mem_flatMap.1 hu
 exact IM (h x hm) u hx
def AptU(base:Nat)(w:World)(u:Value)(L:List Prt):Prop:=(∀ x∈L,De x)∧L.length≤maxLen∧(Prts w base u L∨OwnP base w u L)
theorem AptU.read{base:Nat}{w:World}{u:Value}{L:List Prt}(h:AptU base w u L)(hb:base≤w.heap.size):Prts w w.heap.size u L:=by
 obtain⟨h1,-,h2 | h2⟩:=h
 ·exact h2.more hb
 ·exact h2.read h1
theorem AptU.on{base:Nat}{w w':World}{u:Value}{L:List Prt}(h:AptU base w u L)(q:Q w w')(hb:base≤w.heap.size):AptU base w' u L:=by
 obtain⟨h1,h0,h2 | h2⟩:=h
 ·exact⟨h1,h0,.inl (h2.below (Below.mono q hb))⟩
 ·exact⟨h1,h0,.inr (h2.on q)⟩
theorem AptU.shape{base:Nat}{w:World}{u:Value}{L:List Prt}(h:AptU base w u L):∃ A n c,u=.slice A n c:=by
 obtain⟨-,-,h2 | h2⟩:=h
 ·obtain⟨A,c,e⟩:=h2.form;exact⟨A,_,c,e⟩
 ·obtain⟨A,c,e⟩:=h2.form;exact⟨A,_,c,e⟩
def RowU(base:Nat)(w:World)(v:Value)(P:List (Upl×Value)):Prop:=w.ownsRow base 107 3 v P.length (P.flatMap ucl)
theorem RowU.on{base:Nat}{w w':World}{v:Value}{P:List (Upl×Value)}(h:RowU base w v P)(q:Q w w'):RowU base w' v P:=by
 rcases h.2 with⟨rfl,h0⟩ | ⟨g,cap,cur,rfl,hb,hg,h1,h2,h3,h4⟩
 ·exact⟨h.1,.inl ⟨rfl,h0⟩⟩
 ·exact⟨h.1,.inr ⟨g,cap,cur,rfl,hb,(q.block g (lt_of_block hg)).trans hg,h1,h2,h3,h4⟩⟩
theorem AptU.grown{base:Nat}{w w':World}{v u:Value}{P:List (Upl×Value)}{L:List Prt}(h:AptU base w u L)(r:RowU base w v P)(g:w.grownBy w' v.ownBlock)(hb:base≤w.heap.size):AptU base w' u L:=by
 obtain⟨h1,h0,h2 | h2⟩:=h
 ·refine⟨h1,h0,.inl (h2.keep fun p hp=>World.cell?_of_block (g.block p.block (by omega) fun e=>?_))⟩
  have:=(World.ownsRow.lt r p.block e.symm).1
  omega
 ·refine⟨h1,h0,.inr (World.ownsRow.kept h2 g ?_)⟩
  rcases h2.2 with⟨rfl,-⟩ | ⟨k,cap,cur,rfl,-,hk,-⟩
  ·exact .inl rfl
  ·refine .inr fun e=>?_
   rcases r.2 with⟨rfl,-⟩ | ⟨k',cap',cur',rfl,-,hk',-⟩
   ·simp [Value.ownBlock] at e
   ·simp [Value.ownBlock] at e
    subst e
    rw [hk] at hk'
    injection hk' with hk'
    injection hk' with e1 e2
    exact absurd e2 (by decide)
def DC(base:Nat)(w:World)(p:Upl×Value):Prop:=okU p.1∧AptU base w p.2 p.1.L
def OwnU(base:Nat)(w:World)(v:Value)(l:List Upl):Prop:=∃ P:List (Upl×Value),P.map (·.1)=l∧RowU base w v P∧∀ p∈P,DC base w p
theorem OwnU.nil(base:Nat)(w:World):OwnU base w (.slice none 0 0) []:=⟨[],rfl,World.ownsRow_nil w _ _ _,by simp⟩
theorem OwnU.on{base:Nat}{w w':World}{v:Value}{l:List Upl}(h:OwnU base w v l)(q:Q w w')(hb:base≤w.heap.size):OwnU base w' v l:=by
 obtain⟨P,e,r,f⟩:=h
 exact⟨P,e,r.on q,fun p hp=>⟨(f p hp).1,(f p hp).2.on q hb⟩⟩
theorem OwnU.form{base:Nat}{w:World}{v:Value}{l:List Upl}(h:OwnU base w v l):∃ A c,v=.slice A l.length c:=by
 obtain⟨P,rfl,r,-⟩:=h
 rw [List.length_map]
 rcases r.2 with⟨rfl,h0⟩ | ⟨g,cap,cur,rfl,-⟩
 ·exact⟨none,0,by rw [h0]⟩
 ·exact⟨_,_,rfl⟩
theorem RowU.read{base:Nat}{w:World}{v:Value}{P:List (Upl×Value)}(r:RowU base w v P)(hb:base≤w.heap.size)(f:∀ p∈P,okU p.1∧Prts w w.heap.size p.2 p.1.L):Upls w w.heap.size v (P.map (·.1)):=by
 have ok:∀ x∈P.map (·.1),okU x:=by
  intro x hx
  obtain⟨p,hp,rfl⟩:=List.mem_map.1 hx
  exact(f p hp).1
 rcases r.2 with⟨rfl,h0⟩ | ⟨g,cap,cur,rfl,hb,hg,h1,h2,h3,h4⟩
 ·rw [List.length_eq_zero_iff.1 h0];exact Upls.nil _ _
 ·refine⟨some ⟨g,0,none⟩,cap,by rw [List.length_map],by rw [List.length_map];exact h1,(by simp),ok,fun k hk=>⟨⟨g,0,none⟩,rfl,lt_of_block hg,?_⟩⟩
  rw [List.length_map] at hk
  have hc:∀ j,j<3→w.cell? ((⟨g,0,none⟩:Addr).add (k*3+j))=(ucl P[k])[j]?:=by
   intro j hj
   have:=Bd P k hk hj
   obtain⟨u,hu⟩:∃ u,(ucl P[k])[j]?=some u:=⟨_,List.getElem?_eq_getElem (by rw [show(ucl P[k]).length=3 by rfl];exact hj)⟩
   rw [hu] at this ⊢
   exact World.ownsRow.cells r (g:=g) rfl _ _ this
  have ha:∀ j,0<j→(⟨g,0,none⟩:Addr).add (k*3+j)=⟨((⟨g,0,none⟩:Addr).add (k*3)).block,((⟨g,0,none⟩:Addr).add (k*3)).off+j,none⟩:=by
   intro j hj
   rw [Ai _ (by omega),AG]
   unfold Addr.add
   split
   ·rename_i h0;simp [h0]
   ·simp [Nat.add_assoc]
  rw [List.getElem_map]
  exact⟨hc 0 (by omega),(by rw [← ha 1 (by omega)];exact hc 1 (by omega)),P[k].2,(by rw [← ha 2 (by omega)];exact hc 2 (by omega)),(f _ (List.getElem_mem hk)).2⟩
theorem OwnU.read{base:Nat}{w:World}{v:Value}{l:List Upl}(h:OwnU base w v l)(hb:base≤w.heap.size):Upls w w.heap.size v l:=by
 obtain⟨P,rfl,r,f⟩:=h
 exact r.read hb fun p hp=>⟨(f p hp).1,(f p hp).2.read hb⟩
theorem OwnU.shapes{base:Nat}{w:World}{P:List (Upl×Value)}(f:∀ p∈P,DC base w p):Dg P:=fun p hp=>(f p hp).2.shape
theorem RowU.onto{base k:Nat}{w2:World}{v2:Value}{P R:List (Upl×Value)}(h1:w2.ownsRow base 107 3 v2 (P.length+k) (P.flatMap ucl++R.flatMap ucl))(hk:k=R.length):RowU base w2 v2 (P++R):=by
 subst hk
 unfold RowU
 rw [List.flatMap_append,List.length_append]
 exact h1
theorem RowU.grown{base:Nat}{w0 wr w2:World}{v:Value}{P:List (Upl×Value)}(hown:RowU base wr v P)(hbel:Below base w0 wr)(hb:base≤wr.heap.size)(h2:wr.grownBy w2 v.ownBlock):Below base w0 w2:=
 hbel.grown h2 hb (fun k hk=>(World.ownsRow.lt hown k hk).1)
theorem An(w:World)(p:Upl×Value)(t:TypeId):∀ j u,(ucl p)[j]?=some u→(w.alloc (.cells (ucl p).toArray t)).cell? ((⟨w.heap.size,0,none⟩:Addr).add j)=some u:=by
 intro j u hj
 obtain⟨hj2,rfl⟩:=List.getElem?_eq_some_iff.1 hj
 match j,hj2 with
 | 0,_=>simp [Addr.add,ucl]
 | 1,_=>simp [Addr.add,ucl]
 | 2,_=>simp [Addr.add,ucl]
theorem Upls.flat{w:World}{B:Nat}{a:Addr}{n c:Nat}{l:List Upl}(h:Upls w B (.slice (some a) n c) l):
  ∃ P:List (Upl×Value),P.map (·.1)=l∧(∀ p∈P,okU p.1∧Prts w B p.2 p.1.L)∧∀ j u,(P.flatMap ucl)[j]?=some u→w.cell? (a.add j)=some u:=by
 obtain⟨A,c',e,-,-,ok,f⟩:=h
 injection e with e1 e2 e3
 have each:∀ i,i<l.length→∃ p:Upl×Value,(∀ h:i<l.length,p.1=l[i])∧Prts w B p.2 p.1.L∧w.cell? (a.add (i*3))=some (.int .u64 (p.1.id:Nat))∧w.cell? ⟨(a.add (i*3)).block,(a.add (i*3)).off+1,none⟩=some (.string p.1.key)∧w.cell? ⟨(a.add (i*3)).block,(a.add (i*3)).off+2,none⟩=some (p.2):=by
  intro i hi
  obtain⟨a',ea,-,h0,h1,u,h2,hu⟩:=f i hi
  rw [← e1] at ea
  injection ea with ea
  subst ea
  exact⟨(l[i],u),fun _=>rfl,hu,h0,h1,h2⟩
 obtain⟨P,hP,hp⟩:=DG l.length each
 have hmap:P.map (·.1)=l:=by
  refine List.ext_getElem (by rw [List.length_map,hP]) fun i h1 h2=>?_
  rw [List.getElem_map]
  exact(hp i (by rw [hP];exact h2)).1 h2
 refine⟨P,hmap,fun p hm=>?_,fun j u hu=>?_⟩
 ·obtain⟨k,hk,rfl⟩:=List.getElem_of_mem hm
  have hmem:P[k].1∈l:=by rw [← hmap];exact List.mem_map.2 ⟨_,hm,rfl⟩
  exact⟨ok _ hmem,(hp k hk).2.1⟩
 ·obtain⟨hj,-⟩:=List.getElem?_eq_some_iff.1 hu
  rw [GY] at hj
  have hk:j/3<P.length:=by omega
  have hj2:j=j/3*3+j%3:=by omega
  rw [hj2,Bd P _ hk (by omega)] at hu
  obtain⟨-,-,c0,c1,c2⟩:=hp (j/3) hk
  have hr:j%3<3:=by omega
  have hadd:∀ r,0<r→a.add (j/3*3+r)=⟨(a.add (j/3*3)).block,(a.add (j/3*3)).off+r,none⟩:=by
   intro r hr
   rw [Ai _ (by omega),AG]
   unfold Addr.add
   split
   ·simp [*]
   ·simp [Nat.add_assoc]
  rw [hj2]
  match hm:j%3,hr with
  | 0,_=>rw [hm] at hu;simp [ucl] at hu;rw [Nat.add_zero,c0,← hu]
  | 1,_=>rw [hm] at hu;simp [ucl] at hu;rw [hadd 1 (by omega),c1,← hu]
  | 2,_=>rw [hm] at hu;simp [ucl] at hu;rw [hadd 2 (by omega),c2,← hu]
theorem Ls{H:Type}{enc:TypeId×Value→H}{W:World}{n:Nat}{v:Value}{y:DataW H×List MemPlace}
  (hf:DataW.trod enc Tryz.prog W 0 (fun _=>true) true n 23 [v]=some y):∃ l:List Upl,Upls W W.heap.size v l∧l.length≤maxLen:=by
 rcases Deep.open_slice Tryz.underlying23 hf with⟨hcs,hx⟩ | ⟨a,len',cap',m,n,D,Pl,hcs,_,hl,hm,hmm,hx,hel⟩
 ·simp at hcs
  subst hcs
  exact⟨[],Upls.nil _ _,by simp⟩
 ·simp at hcs
  subst hcs
  have each:∀ i,i<len'→∃ x:Upl,okU x∧AtU W W.heap.size (a.add (i*3)) x:=by
   intro i hi
   obtain⟨cs',h1,h2⟩:=hel i (by rw [hmm];simp;omega)
   rw [Nm] at h1
   obtain⟨-,hlen4,hcell⟩:=World.cells?_some h1
   obtain⟨y0,y1,y2,n',-,-,g0,g1,g2⟩:=Deep.trod_struct3 Tryz.underlying107 h2
   obtain⟨v0,v1,v2,rfl⟩:∃ a b c,cs'=[a,b,c]:=by
    match cs',hlen4 with
    | [a,b,c],_=>exact⟨a,b,c,rfl⟩
   have c0:Tryz.prog.cellsOf 24=1:=by kernel_rfl
   have c1:Tryz.prog.cellsOf 9=1:=by kernel_rfl
   have c2:Tryz.prog.cellsOf 105=1:=by kernel_rfl
   simp [c0,c1,c2] at g0 g1 g2
   obtain⟨s0,e0,-,w0⟩:=DataW.trod_int Tryz.underlying24 g0
   obtain⟨s1,e1,-,w1⟩:=DataW.trod_string Tryz.underlying9 g1
   simp at e0 e1
   subst e0 e1
   obtain⟨s0,rfl,w0n⟩:=OQ w0
   obtain⟨LL,hLL,hml⟩:=Ka g2
   refine⟨⟨s0,s1,LL⟩,⟨w0n,w1,hml⟩,hcell 0 (by omega),(congrArg W.cell? (Ai _ (by omega:0<1)).symm).trans (hcell 1 (by omega)),v2,?_,hLL⟩
   exact(congrArg W.cell? (Ai _ (by omega:0<2)).symm).trans (hcell 2 (by omega))
  obtain⟨l,hlen,hp⟩:=DG len' each
  refine⟨l,⟨some a,cap',by rw [hlen],by omega,(by simp),?_,fun k hk=>⟨a,rfl,?_,(hp k hk).2⟩⟩,by omega⟩
  ·intro x hx
   obtain⟨k,hk,rfl⟩:=List.getElem_of_mem hx
   exact(hp k hk).1
  ·have:=World.block_lt_of_cell? W _ (hp k hk).2.1
   rw [AG] at this;exact this
def upl(e:Upl)(u:Value):Value:=.agg #[.int .u64 (e.id:Nat),.string e.key,u]
theorem Bg(g k j:Nat)(hj:0<j):(⟨((⟨g,0,none⟩:Addr).add (k*3)).block,((⟨g,0,none⟩:Addr).add (k*3)).off+j,none⟩:Addr)=⟨g,k*3+j,none⟩:=by
 unfold Addr.add
 split
 ·rename_i h0;simp [h0]
 ·simp
theorem Bm(g k:Nat):(⟨g,0,none⟩:Addr).add (k*3)=⟨g,k*3,none⟩:=by
 unfold Addr.add
 split
 ·rename_i h0;simp [h0]
 ·simp
theorem IR(P:List (Upl×Value))(k:Nat)(h:k<P.length)(u:Value):(P.set k (P[k].1,u)).flatMap ucl=(P.flatMap ucl).set (k*3+2) u:=by
 induction P generalizing k with
 | nil=>simp at h
 | cons x r ih=>
   cases k with
   | zero=>simp [ucl]
   | succ k=>
     have hk:k<r.length:=by simpa using h
     rw [List.set_cons_succ,List.flatMap_cons,List.flatMap_cons,List.getElem_cons_succ,ih k hk,List.set_append_right _ _ (by rw [show(ucl x).length=3 by rfl];omega)]
     rw [show(k+1)*3+2 - (ucl x).length=k*3+2 by rw [show(ucl x).length=3 by rfl];omega]
theorem RowU.at{base:Nat}{w:World}{A:Option Addr}{n c:Nat}{P:List (Upl×Value)}(r:RowU base w (.slice A n c) P)(k:Nat)(hk:k<P.length):
  ∃ a:Addr,A=some a∧base≤a.block∧a.block<w.heap.size∧∀ d,Q w d→d.cell? (a.add (k*3))=some (.int .u64 (P[k].1.id:Nat))∧d.cell? ⟨(a.add (k*3)).block,(a.add (k*3)).off+1,none⟩=some (.string P[k].1.key)∧d.cell? ⟨(a.add (k*3)).block,(a.add (k*3)).off+2,none⟩=some (P[k].2)∧d.frozen? (a.add (k*3))=false∧d.frozen? ⟨(a.add (k*3)).block,(a.add (k*3)).off+1,none⟩=false∧d.frozen? ⟨(a.add (k*3)).block,(a.add (k*3)).off+2,none⟩=false:=by
 rcases r.2 with⟨h,h0⟩ | ⟨g,cap,cur,h,hb,hg,h1,h2,h3,h4⟩
 ·omega
 ·injection h with e1 e2 e3
  subst e1
  refine⟨⟨g,0,none⟩,rfl,hb,lt_of_block hg,fun d q=>?_⟩
  have hg':d.heap[g]?=some (.cells cur 107):=(Below.block q g (lt_of_block hg)).trans hg
  have r':RowU base d (.slice (some ⟨g,0,none⟩) n c) P:=r.on q
  have cc:∀ j u,j<3→(ucl P[k])[j]?=some u→d.cell? ⟨g,k*3+j,none⟩=some u:=fun j u hj hu=>by
   have:=World.ownsRow.cells r' (g:=g) rfl (k*3+j) u (by rw [Bd P k hk hj];exact hu)
   unfold Addr.add at this
   split at this
   ·rename_i h0;rw [show k*3+j=0 by omega];exact this
   ·simpa using this
  have ff:∀ j,d.frozen? ⟨g,j,none⟩=false:=fun j=>by simp [World.frozen?,hg']
  rw [Bm]
  exact⟨cc 0 _ (by omega) rfl,(by rw [← Bg g k 1 (by omega),Bm] at *;exact cc 1 _ (by omega) rfl),(by rw [← Bg g k 2 (by omega),Bm] at *;exact cc 2 _ (by omega) rfl),ff _,ff _,ff _⟩
theorem RowU.store{base:Nat}{w:World}{a:Addr}{n c:Nat}{P:List (Upl×Value)}{u:Value}{l:List Prt}(r:RowU base w (.slice (some a) n c) P)(f:∀ p∈P,DC base w p)(k:Nat)(hk:k<P.length)(hu:AptU base w u l)(hb:base≤w.heap.size):
  OwnU base (w.setCell ⟨(a.add (k*3)).block,(a.add (k*3)).off+2,none⟩ u) (.slice (some a) n c) ((P.map (·.1)).set k {P[k].1 with L:=l}):=by
 have r0:=r
 rcases r.2 with⟨h,h0⟩ | ⟨g,cap,cur,h,hb',hg,h1,h2,h3,h4⟩
 ·omega
 ·injection h with e1 e2 e3
  injection e1 with e1
  subst e1 e2 e3
  rw [Bg _ _ _ (by omega)]
  obtain⟨s1,s2⟩:=World.ownsRow.stored r (k*3+2) u
  refine⟨P.set k ({P[k].1 with L:=l},u),by rw [List.map_set],?_,fun p hp=>?_⟩
  ·unfold RowU
   have e:(P.set k ({P[k].1 with L:=l},u)).flatMap ucl=(P.set k (P[k].1,u)).flatMap ucl:=by
    have:(P.set k ({P[k].1 with L:=l},u)).map ucl=(P.set k (P[k].1,u)).map ucl:=by rw [List.map_set,List.map_set];rfl
    rw [List.flatMap_def,List.flatMap_def,this]
   rw [e,IR P k hk u,List.length_set];exact s1
  ·obtain⟨i,hi,rfl⟩:=List.getElem_of_mem hp
   rw [List.getElem_set]
   have hi':i<P.length:=by rw [List.length_set] at hi;exact hi
   have ok:=(f _ (List.getElem_mem hk)).1
   split
   ·rename_i e;subst e
    exact⟨⟨ok.1,ok.2.1,hu.2.1⟩,hu.grown r0 s2 hb⟩
   ·exact⟨(f _ (List.getElem_mem hi')).1,(f _ (List.getElem_mem hi')).2.grown r0 s2 hb⟩
theorem RowU.store_all{base:Nat}{w:World}{a:Addr}{n c:Nat}{P:List (Upl×Value)}{u:Value}{l:List Prt}(r:RowU base w (.slice (some a) n c) P)(f:∀ p∈P,DC base w p)(k:Nat)(hk:k<P.length)(hu:AptU base w u l)(hb:base≤w.heap.size):
  OwnU base ((((w).setCell (a.add (k*3)) (.int .u64 (P[k].1.id:Nat))).setCell ⟨(a.add (k*3)).block,(a.add (k*3)).off+1,none⟩ (.string P[k].1.key)).setCell ⟨(a.add (k*3)).block,(a.add (k*3)).off+2,none⟩ u) (.slice (some a) n c) ((P.map (·.1)).set k {P[k].1 with L:=l}):=by
 have r0:=r
 rcases r.2 with⟨h,h0⟩ | ⟨g,cap,cur,h,hb',hg,h1,h2,h3,h4⟩
 ·omega
 ·injection h with e1 e2 e3
  injection e1 with e1
  subst e1 e2 e3
  have same:∀ (x:World) j uu,RowU base x (.slice (some ⟨g,0,none⟩) P.length c) P→(∀ p∈P,DC base x p)→base≤x.heap.size→AptU base x u l→j<3→(ucl P[k])[j]?=some uu→RowU base (x.setCell ⟨g,k*3+j,none⟩ uu) (.slice (some ⟨g,0,none⟩) P.length c) P∧(∀ p∈P,DC base (x.setCell ⟨g,k*3+j,none⟩ uu) p)∧AptU base (x.setCell ⟨g,k*3+j,none⟩ uu) u l∧base≤(x.setCell ⟨g,k*3+j,none⟩ uu).heap.size:=by
   intro x j uu rx fx bx ax hj hu
   obtain⟨s1,s2⟩:=World.ownsRow.stored rx (k*3+j) uu
   refine⟨?_,fun p hp=>⟨(fx p hp).1,(fx p hp).2.grown rx s2 bx⟩,ax.grown rx s2 bx,by simpa using bx⟩
   have e:(P.flatMap ucl).set (k*3+j) uu=P.flatMap ucl:=by
    have:=Bd P k hk hj
    rw [hu] at this
    obtain⟨hlt,e⟩:=List.getElem?_eq_some_iff.1 this
    rw [← e];exact List.set_getElem_self hlt
   unfold RowU
   rw [← e];exact s1
  have x0:=same w 0 _ r0 f hb hu (by omega) rfl
  have x1:=same _ 1 _ x0.1 x0.2.1 x0.2.2.2 x0.2.2.1 (by omega) rfl
  have y:=RowU.store x1.1 x1.2.1 k hk x1.2.2.1 x1.2.2.2
  rw [Bg _ _ _ (by omega)] at y
  rw [Bm]
  exact y
theorem FT(w:World)(base:Nat)(t ty:TypeId)(htt:Tryz.prog.underlying t=some (.slice 107))(v:Value)(l m:List Upl){A:Option Addr}{n c:Nat}(h:OwnU base w v l)
  (g:Upls w base (.slice A n c) m) (hb:base≤w.heap.size) (hl:l.length+m.length≤4000) :
  ∃ v' w',(Builtin.append_ #[t,t] ty #[v,.slice A n c]).run Tryz.prog w=.ok v' w'∧OwnU base w' v' (l++m)∧Below base w w':=by
 obtain⟨i0,hi0,hz0,hz1,hz2⟩:=info_parts EQ
 have hn:n=m.length:=by obtain⟨A',c',e,-⟩:=g;injection e
 subst hn
 obtain⟨P,hP,r,f⟩:=h
 cases A with
 | none=>
   have hm:m=[]:=by
    obtain⟨A',c',e,e0,ez,-,-⟩:=g
    injection e with e1 e2 e3
    have:=ez e1.symm
    exact List.length_eq_zero_iff.1 (by omega)
   subst hm
   have hc:c=0:=by
    obtain⟨A',c',e,e0,ez,-,-⟩:=g
    injection e with e1 e2 e3
    rw [e3];exact ez e1.symm
   subst hc
   exact⟨v,w,run_append_owned_none (P:=Tryz.prog) (w:=w) base t ty 107 i0 3 htt hi0 v _ _ r,⟨P,by simpa using hP,r,f⟩,Below.refl _ _⟩
 | some a=>
   have ok:=g.okIn
   obtain⟨R,hR,fR,hcell⟩:=g.flat
   have sR:Dg R:=fun p hp=>by obtain⟨A,c,e⟩:=(fR p hp).2.form;exact⟨A,_,c,e⟩
   have hPl:P.length=l.length:=by rw [← hP,List.length_map]
   have hRl:R.length=m.length:=by rw [← hR,List.length_map]
   obtain⟨v',w',h1,h2,h3,-⟩:=run_append_own (P:=Tryz.prog) w base t ty 107 i0 (.agg #[.int .u64 0,.string ⟨#[]⟩,.slice none 0 0]) 3 48 htt hi0 hz0 hz1 hz2 rfl (by decide) v P.length (P.flatMap ucl) r a m.length c (R.flatMap ucl) (by rw [GY,hRl]) hcell (E0 sR) (by unfold maxLen;omega) (by omega) hb
   refine⟨v',w',h1,⟨P++R,by rw [List.map_append,hP,hR],RowU.onto h2 hRl.symm,fun p hp=>?_⟩,(Below.refl base w).grown h3 hb fun k hk=>(World.ownsRow.lt r k hk).1⟩
   rcases List.mem_append.1 hp with hp | hp
   ·exact⟨(f p hp).1,(f p hp).2.grown r h3 hb⟩
   ·have hpm:p.1∈m:=by rw [← hR];exact List.mem_map.2 ⟨_,hp,rfl⟩
    have apt:AptU base w p.2 p.1.L:=⟨ok _ hpm,(fR p hp).1.2.2,.inl (fR p hp).2⟩
    exact⟨(fR p hp).1,apt.grown r h3 hb⟩
theorem CE{ops:Array Oper}{rest:List Oper}{o:Oper}{a:Act}{Q:Exit→Act→World→Prop}(w:World)(hgd:o.guard=none)(s x:Operand)(t:TypeId)
  (htt:Tryz.prog.underlying t=some (.slice 107)) (ho:o.op=.call {callee:=.builtin .append,args:=#[s,x],argTypes:=#[t,t]})
  (base:Nat) (v:Value) (l m:List Upl) {A:Option Addr} {n c:Nat} (hs:a.eval s=v) (hx:a.eval x=.slice A n c) (h:OwnU base w v l)
  (g:Upls w base (.slice A n c) m) (hb:base≤w.heap.size) (hl:l.length+m.length≤4000)
  (k:∀ v' w',OwnU base w' v' (l++m)→Below base w w'→wpList Tryz.prog ops Q rest (a.put o.dst v') w'):wpList Tryz.prog ops Q (o :: rest) a w:=by
 refine wpList_plain hgd fun K hK=>?_
 obtain⟨v',w',h1,h2,h3⟩:=FT w base t o.type htt v l m h g hb hl
 unfold Oper.wp execOp
 simp only [ho,resolve,invoke,builtin,Sem.run_bind,Sem.run_pure,Result.andThen_ok,List.map_toArray,List.map_cons,List.map_nil,hs,hx,h1]
 exact hK _ _ (k v' w' h2 h3)
theorem Hc(w:World)(base:Nat)(t ty:TypeId)(htt:Tryz.prog.underlying t=some (.slice 107))(v:Value)(l:List Upl)(p:Upl×Value){g c:Nat}(hgg:∀ j u,(ucl p)[j]?=some u→w.cell? ((⟨g,0,none⟩:Addr).add j)=some u)
  (h:OwnU base w v l) (hp:DC base w p) (hb:base≤w.heap.size) (hl:l.length≤4000) :
  ∃ v' w',(Builtin.append_ #[t,t] ty #[v,.slice (some ⟨g,0,none⟩) 1 c]).run Tryz.prog w=.ok v' w'∧OwnU base w' v' (l ++ [p.1])∧Below base w w':=by
 obtain⟨i0,hi0,hz0,hz1,hz2⟩:=info_parts EQ
 obtain⟨P,hP,r,f⟩:=h
 have hPl:P.length=l.length:=by rw [← hP,List.length_map]
 obtain⟨v',w',h1,h2,h3,-⟩:=run_append_own (P:=Tryz.prog) w base t ty 107 i0 (.agg #[.int .u64 0,.string ⟨#[]⟩,.slice none 0 0]) 3 48 htt hi0 hz0 hz1 hz2 rfl (by decide) v P.length (P.flatMap ucl) r ⟨g,0,none⟩ 1 c (ucl p) rfl hgg (IM hp.2.shape) (by unfold maxLen;omega) (by omega) hb
 refine⟨v',w',h1,⟨P ++ [p],by rw [List.map_append,hP];rfl,RowU.onto (R:=[p]) (by simpa using h2) rfl,fun q hq=>?_⟩,(Below.refl base w).grown h3 hb fun k hk=>(World.ownsRow.lt r k hk).1⟩
 rcases List.mem_append.1 hq with hq | hq
 ·exact⟨(f q hq).1,(f q hq).2.grown r h3 hb⟩
 ·obtain rfl:q=p:=by simpa using hq
  exact⟨hp.1,hp.2.grown r h3 hb⟩
theorem Am{ops:Array Oper}{rest:List Oper}{o:Oper}{a:Act}{Q:Exit→Act→World→Prop}(w:World)(hgd:o.guard=none)(s x:Operand)(t:TypeId)
  (htt:Tryz.prog.underlying t=some (.slice 107)) (ho:o.op=.call {callee:=.builtin .append,args:=#[s,x],argTypes:=#[t,t]})
  (base g:Nat) (v:Value) (l:List Upl) (p:Upl×Value) {c:Nat} (hs:a.eval s=v) (hx:a.eval x=.slice (some ⟨g,0,none⟩) 1 c) (hgg:∀ j u,(ucl p)[j]?=some u→w.cell? ((⟨g,0,none⟩:Addr).add j)=some u)
  (h:OwnU base w v l) (hp:DC base w p) (hb:base≤w.heap.size) (hl:l.length≤4000)
  (k:∀ v' w',OwnU base w' v' (l ++ [p.1])→Below base w w'→wpList Tryz.prog ops Q rest (a.put o.dst v') w'):wpList Tryz.prog ops Q (o :: rest) a w:=by
 refine wpList_plain hgd fun K hK=>?_
 obtain⟨v',w',h1,h2,h3⟩:=Hc w base t o.type htt v l p (c:=c) hgg h hp hb hl
 unfold Oper.wp execOp
 simp only [ho,resolve,invoke,builtin,Sem.run_bind,Sem.run_pure,Result.andThen_ok,List.map_toArray,List.map_cons,List.map_nil,hs,hx,h1]
 exact hK _ _ (k v' w' h2 h3)
end
section
open Go.ChangeShapes Go.WideShapes Go.ChangeAt Go.RowKit
def Cd(p:Prt):Bool:=decide (1≤p.n)&&decide (p.n≤1000)&&decide (p.data.size≤2000)
theorem EO{p:Prt}: Cd p=true↔1≤p.n∧p.n≤1000∧p.data.size≤2000:=by
 unfold Cd
 simp [and_assoc]
def Pa(id:Nat):Bool:=decide (1≤id)&&decide (id≤281474976710655)
theorem Cx{id:Nat}: Pa id=true↔1≤id∧id≤281474976710655:=by
 unfold Pa
 simp
theorem Fr(p:Prt)(w:World):
  Calls Tryz.prog 134 #[prt p] w fun e w'=>e=.returned (.bool (Cd p))∧Q w w':=by
 have HF:=AC (show Cd p=(decide (1≤p.n)&&decide (p.n≤1000)&&decide (p.data.size≤2000)) from rfl)
 have HQ:=AC (fun o=>(Q.refl w).alloc o)
 obtain⟨n,d⟩:=p
 rw [prt]
 simp only at HF ⊢
 by_cases h1:1≤n
 ·by_cases h2:n≤1000
  ·by_cases h3:d.size≤2000
   ·have j3:(d.size:Int)≤2000:=by omega
    go_enter Tryz.func134,Tryz.ntmps134
    go_wp2
    go_ret
    exact⟨AE (by rw [HF.out];(first | (simp [*];done) | (simp;omega))),HQ.out _⟩
   ·have j3:¬ (d.size:Int)≤2000:=by omega
    go_enter Tryz.func134,Tryz.ntmps134
    go_wp2
    go_ret
    exact⟨AE (by rw [HF.out];(first | (simp [*];done) | (simp;omega))),HQ.out _⟩
  ·go_enter Tryz.func134,Tryz.ntmps134
   go_wp2
   go_ret
   exact⟨AE (by rw [HF.out];(first | (simp [*];done) | (simp;omega))),HQ.out _⟩
 ·go_enter Tryz.func134,Tryz.ntmps134
  go_wp2
  go_ret
  exact⟨AE (by rw [HF.out];(first | (simp [*];done) | (simp;omega))),HQ.out _⟩
theorem Ee(p:Prt)(w:World):
  Calls Tryz.prog 130 #[prt p] w fun e w'=>e=.returned (.bool (Cd p))∧Q w w':=by
 have HF:=AC (show Cd p=(decide (1≤p.n)&&decide (p.n≤1000)&&decide (p.data.size≤2000)) from rfl)
 have HQ:=AC (fun o=>(Q.refl w).alloc o)
 obtain⟨n,d⟩:=p
 rw [prt]
 simp only at HF ⊢
 by_cases h1:1≤n
 ·by_cases h2:n≤1000
  ·by_cases h3:d.size≤2000
   ·have j3:(d.size:Int)≤2000:=by omega
    go_enter Tryz.func130,Tryz.ntmps130
    go_wp2
    go_ret
    exact⟨AE (by rw [HF.out];(first | (simp [*];done) | (simp;omega))),HQ.out _⟩
   ·have j3:¬ (d.size:Int)≤2000:=by omega
    go_enter Tryz.func130,Tryz.ntmps130
    go_wp2
    go_ret
    exact⟨AE (by rw [HF.out];(first | (simp [*];done) | (simp;omega))),HQ.out _⟩
  ·go_enter Tryz.func130,Tryz.ntmps130
   go_wp2
   go_ret
   exact⟨AE (by rw [HF.out];(first | (simp [*];done) | (simp;omega))),HQ.out _⟩
 ·go_enter Tryz.func130,Tryz.ntmps130
  go_wp2
  go_ret
  exact⟨AE (by rw [HF.out];(first | (simp [*];done) | (simp;omega))),HQ.out _⟩
theorem Fp(id:Nat)(w:World):
  Calls Tryz.prog 129 #[.int .u64 (id:Nat)] w fun e w'=>e=.returned (.bool (Pa id))∧w=w':=by
 have HF:=AC (show Pa id=(decide (1≤id)&&decide (id≤281474976710655)) from rfl)
 by_cases h1:(1:Int)≤(id:Int)
 ·by_cases h2:(id:Int)≤281474976710655
  ·go_enter Tryz.func129,Tryz.ntmps129
   go_wp2
   go_ret
   exact⟨AE (by rw [HF.out];simp;(try omega)),rfl⟩
  ·go_enter Tryz.func129,Tryz.ntmps129
   go_wp2
   go_ret
   exact⟨AE (by rw [HF.out];simp;(try omega)),rfl⟩
 ·go_enter Tryz.func129,Tryz.ntmps129
  go_wp2
  go_ret
  exact⟨AE (by rw [HF.out];simp;(try omega)),rfl⟩
def Cl(id:Nat)(key:ByteArray):Bool:=Pa id&&BD 1 60 ko key
theorem Dx(id:Nat)(key:ByteArray)(w:World)(hs:key.size≤1000):
  Calls Tryz.prog 133 #[.int .u64 (id:Nat),.string key] w fun e w'=>e=.returned (.bool (Cl id key))∧Q w w':=by
 have C:=AC (fun d=>Cn key d hs)
 by_cases h1:(1:Int)≤(id:Int)
 ·by_cases h2:(id:Int)≤281474976710655
  ·have HF:Hid (Cl id key=BD 1 60 ko key):=AC (by rw [Cl,Cx.2 (by omega)];rfl)
   obtain⟨r,hr⟩:∃ r,r=BD 1 60 ko key:=⟨_,rfl⟩
   rw [← hr] at C HF
   clear hr
   go_enter Tryz.func133,Tryz.ntmps133
   go_wp2_with fail
   refine(C.out _).mono ?_
   rintro e w1 ⟨rfl,q1⟩
   go_wp2
   go_ret
   exact⟨AE (by rw [HF.out]),q1⟩
  ·have HF:Hid (Cl id key=false):=AC (by
    have:Pa id=false:=by rw [Bool.eq_false_iff];intro e;have:=Cx.1 e;omega
    rw [Cl,this];rfl)
   go_enter Tryz.func133,Tryz.ntmps133
   go_wp2
   go_ret
   exact⟨AE (by rw [HF.out]),Q.refl _⟩
 ·have HF:Hid (Cl id key=false):=AC (by
   have:Pa id=false:=by rw [Bool.eq_false_iff];intro e;have:=Cx.1 e;omega
   rw [Cl,this];rfl)
  go_enter Tryz.func133,Tryz.ntmps133
  go_wp2
  go_ret
  exact⟨AE (by rw [HF.out]),Q.refl _⟩
end
section
open Go.ChangeShapes Go.WideShapes Go.ChangeAt Go.RowKit
def Chk(p:Prop)(R:Bool):Prop:=(R=true∧p)∨(R=false∧¬ p)
theorem Chk.yes{p:Prop}{R:Bool}(h:Chk p R)(k:p):R=true:=by
 rcases h with⟨h,-⟩ | ⟨-,h⟩
 ·exact h
 ·exact absurd k h
theorem Chk.no{p:Prop}{R:Bool}(h:Chk p R)(k:¬ p):R=false:=by
 rcases h with⟨-,h⟩ | ⟨h,-⟩
 ·exact absurd h k
 ·exact h
theorem Bw(p:Prop):∃ R,Chk p R:=by
 by_cases h:p
 ·exact⟨true,.inl ⟨rfl,h⟩⟩
 ·exact⟨false,.inr ⟨rfl,h⟩⟩
def D1(L:List Prt)(i:Nat):Prop:=∀ h:i<L.length,Cd L[i]=true∧∀ j (hj:j+1=i),(L[j]'(by omega)).n<L[i].n
def okL(L:List Prt):Prop:=∀ i,D1 L i
def DF(u:Upl):Prop:=Cl u.id u.key=true∧u.L.length≤30∧okL u.L
def smU(u:Upl):Prop:=u.key.size≤1000∧u.L.length≤1000∧∀ x∈u.L,x.data.size≤5000
def Mq(L:List Prt)(i:Nat)(x:Int):Prop:=(i=0∧x=0)∨∃ j,∃ h:j<L.length,j+1=i∧x=L[j].n
theorem Ff{L:List Prt}{i:Nat}(h:∀ j,j<i→D1 L j)(k:D1 L i):∀ j,j<i+1→D1 L j:=fun j hj=>by
 by_cases e:j=i
 ·subst e;exact k
 ·exact h j (by omega)
theorem G6{L:List Prt}(h:∀ j,j<L.length→D1 L j):okL L:=fun i hi=>h i hi hi
theorem Kn{L:List Prt}{i:Nat}(h:i<L.length):Mq L (i+1) L[i].n:=.inr ⟨i,h,rfl,rfl⟩
theorem Km{L:List Prt}{i:Nat}{x:Int}(h:i<L.length)(hx:Mq L i x)(hm:Cd L[i]=true)(hn:¬ L[i].n≤x):D1 L i:=fun _=>by
 refine⟨hm,fun j hj=>?_⟩
 rcases hx with⟨h0,-⟩ | ⟨j',hj',e,rfl⟩
 ·omega
 ·obtain rfl:j'=j:=by omega
  omega
theorem Mp{L:List Prt}{i:Nat}{x:Int}(h:i<L.length)(hx:Mq L i x)(hm:Cd L[i]=true)(hn:L[i].n≤x):¬ D1 L i:=fun s=>by
 obtain⟨-,s2⟩:=s h
 rcases hx with⟨h0,rfl⟩ | ⟨j',hj',e,rfl⟩
 ·obtain⟨m1,-⟩:=EO.1 hm
  omega
 ·have:=s2 j' e
  omega
theorem Bf{w w1:World}{i:Int}{k:ByteArray}{u:Value}(q:Q (w.alloc (.cells #[.int .u64 i,.string k,u] 107)) w1):w1.cell? ⟨w.heap.size,0,none⟩=some (.int .u64 i)∧w1.cell? ⟨w.heap.size,1,none⟩=some (.string k)∧w1.cell? ⟨w.heap.size,2,none⟩=some u:=by
 have c:∀ j,w1.cell? ⟨w.heap.size,j,none⟩=(w.alloc (.cells #[.int .u64 i,.string k,u] 107)).cell? ⟨w.heap.size,j,none⟩:=fun j=>Below.cell q (p:=⟨w.heap.size,j,none⟩) (by simp)
 refine⟨(c 0).trans ?_,(c 1).trans ?_,(c 2).trans ?_⟩ <;> simp [go_sem]
theorem Ak{w w1:World}{i:Int}{k:ByteArray}(q:Q (w.alloc (.cells #[.int .i64 i,.string k] 64)) w1):w1.cell? ⟨w.heap.size,0,none⟩=some (.int .i64 i)∧w1.cell? ⟨w.heap.size,1,none⟩=some (.string k):=by
 have c:∀ j,w1.cell? ⟨w.heap.size,j,none⟩=(w.alloc (.cells #[.int .i64 i,.string k] 64)).cell? ⟨w.heap.size,j,none⟩:=fun j=>Below.cell q (p:=⟨w.heap.size,j,none⟩) (by simp)
 refine⟨(c 0).trans ?_,(c 1).trans ?_⟩ <;> simp [go_sem]
theorem JU(u:Upl)(v:Value)(w:World)(R:Bool)(hR:Chk (DF u) R)(hs:smU u)(ht:Prts w w.heap.size v u.L):
  Calls Tryz.prog 95 #[upl u v] w fun e w'=>e=.returned (.bool R)∧Q w w':=by
 obtain⟨id,key,L⟩:=u
 simp only at ht
 have HT:=AC ht
 have HR:Hid (Chk (Cl id key=true∧L.length≤30∧okL L) R):=AC hR
 obtain⟨A,c,rfl⟩:=ht.form
 have hk:key.size≤1000:=hs.1
 have hl:L.length≤1000:=hs.2.1
 have C:=AC (fun d=>Dx id key d hk)
 rw [upl]
 simp only
 clear ht hR hs
 cases hb:Cl id key with
 | false=>
   rw [hb] at C
   have HV:=AC (HR.out.no (fun o=>by have:=o.1;rw [hb] at this;simp at this))
   clear hb
   go_enter Tryz.func95,Tryz.ntmps95
   go_wp2_with fail
   refine(C.out _).mono ?_
   rintro e w1 ⟨rfl,q1⟩
   go_wp2
   go_ret
   exact⟨AE (by rw [HV.out]),((Q.refl w).alloc _).trans q1⟩
 | true=>
   rw [hb] at C
   have HB:=AC hb
   clear hb
   by_cases h30:L.length≤30
   ·have h30':¬ (30:Int)<(L.length:Int):=by omega
    have q00:=(Q.refl w).alloc (.cells #[.int .u64 (id:Nat),.string key,.slice A L.length c] 107)
    go_enter Tryz.func95,Tryz.ntmps95
    go_wp2_with fail
    refine(C.out _).mono ?_
    rintro e w1 ⟨rfl,q1⟩
    obtain⟨b0,b1,b2⟩:=Bf q1
    have q2:=q00.trans q1
    clear q1 q00
    go_wp2_with fail
    clear b0 b1 b2
    go_loopw [3,5,21] (fun LA _ I wr=>∃ i:Nat,∃ x:Int,i≤L.length∧I=.int .i64 i∧LA=.int .i64 x∧Hid (Mq L i x)∧Q w wr∧Hid (∀ j,j<i→D1 L j)) (fun _ _ I _=>L.length - (intOf I).toNat)
    case atStart=>exact⟨0,0,Nat.zero_le _,rfl,rfl,AC (.inl ⟨rfl,rfl⟩),q2,AC (fun j h=>by omega)⟩
    case round=>
     obtain⟨i,x,hil,rfl,rfl,HL,q,HK⟩:=hrel
     clear q2
     by_cases hlt:i<L.length
     ·obtain⟨a,c',hv,ha,-,hat⟩:=HT.out.pick i hlt
      injection hv with e1 e2 e3
      subst e1 e3
      obtain⟨c0,c1⟩:=hat _ q
      clear hat e2
      have hilt:(i:Int)<(L.length:Int):=by omega
      have NO:¬ D1 L i→R=false:=fun h=>HR.out.no fun o=>h (o.2.2 i)
      have YES:Cd L[i]=true→¬ L[i].n≤x→∀ j,j<i+1→D1 L j:=fun h1 h2=>Ff HK.out (Km hlt HL.out h1 h2)
      have NO1:Cd L[i]=false→R=false:=fun h=>NO fun s=>by have:=(s hlt).1;rw [h] at this;simp at this
      have NO2:Cd L[i]=true→L[i].n≤x→R=false:=fun h1 h2=>NO (Mp hlt HL.out h1 h2)
      have NX:Mq L (i+1) L[i].n:=Kn hlt
      obtain⟨p,hp⟩:∃ p,p=L[i]:=⟨_,rfl⟩
      rw [← hp] at c0 c1 YES NO1 NO2 NX
      have NX:=AC NX
      clear hp NO
      have M:=AC fun b=>Fr p b
      have q3:=q.alloc (.cells #[.int .i64 p.n,.string p.data] 64)
      rw [prt] at M
      cases hm:Cd p with
      | false=>
        have HV:=AC (NO1 hm)
        rw [hm] at M
        clear YES NO1 NO2 hm
        go_wp2_with fail
        refine(M.out _).mono ?_
        rintro e w4 ⟨rfl,q4⟩
        go_wp2
        go_ret
        exact⟨AE (by rw [HV.out]),q3.trans q4⟩
      | true=>
        rw [hm] at M
        by_cases hle:p.n≤x
        ·have HV:=AC (NO2 hm hle)
         clear YES NO1 NO2 hm
         go_wp2_with fail
         refine(M.out _).mono ?_
         rintro e w4 ⟨rfl,q4⟩
         obtain⟨d0,d1⟩:=Ak q4
         go_wp2
         go_ret
         exact⟨AE (by rw [HV.out]),q3.trans q4⟩
        ·have HK2:=AC (YES hm hle)
         clear YES NO1 NO2 hm
         go_wp2_with fail
         refine(M.out _).mono ?_
         rintro e w4 ⟨rfl,q4⟩
         obtain⟨d0,d1⟩:=Ak q4
         go_wp2
         go_roundw
         case rel=>exact⟨i+1,p.n,by omega,by go_num,rfl,NX,q3.trans q4,HK2⟩
         case measure=>simp [intOf];omega
     ·have HV:=AC (HR.out.yes ⟨HB.out,h30,G6 fun j h=>HK.out j (by omega)⟩)
      have hilt:¬ (i:Int)<(L.length:Int):=by omega
      go_wp2
      go_ret
      exact⟨AE (by rw [HV.out]),q⟩
   ·have h30':(30:Int)<(L.length:Int):=by omega
    have HV:=AC (HR.out.no (fun o=>h30 o.2.1))
    go_enter Tryz.func95,Tryz.ntmps95
    go_wp2_with fail
    refine(C.out _).mono ?_
    rintro e w1 ⟨rfl,q1⟩
    obtain⟨b0,b1,b2⟩:=Bf q1
    go_wp2
    go_ret
    exact⟨AE (by rw [HV.out]),((Q.refl w).alloc _).trans q1⟩
theorem He(u:Upl)(v:Value)(w:World)(R:Bool)(hR:Chk (DF u) R)(hs:smU u)(ht:Prts w w.heap.size v u.L):
  Calls Tryz.prog 103 #[upl u v] w fun e w'=>e=.returned (.bool R)∧Q w w':=by
 obtain⟨id,key,L⟩:=u
 simp only at ht
 have HT:=AC ht
 have HR:Hid (Chk (Cl id key=true∧L.length≤30∧okL L) R):=AC hR
 obtain⟨A,c,rfl⟩:=ht.form
 have hk:key.size≤1000:=hs.1
 have hl:L.length≤1000:=hs.2.1
 obtain⟨n,hn⟩:∃ n,L.length=n:=⟨_,rfl⟩
 have HN:=AC hn
 rw [hn] at hl
 have HT:Hid (Prts w w.heap.size (.slice A n c) L):=AC (by rw [← hn];exact ht)
 have q00:=Q.refl (w.alloc (.cells #[.int .u64 (id:Nat),.string key,.slice A n c] 107))
 have QW:=AC ((Q.refl w).alloc (.cells #[.int .u64 (id:Nat),.string key,.slice A n c] 107))
 rw [upl]
 simp only
 rw [hn]
 clear ht hR hs hn
 go_enter Tryz.func103,Tryz.ntmps103
 go_wp2_with fail
 go_loopw [3] (fun I wr=>∃ i:Nat,i≤n∧I=.int .i64 i∧Q (w.alloc (.cells #[.int .u64 (id:Nat),.string key,.slice A n c] 107)) wr∧Hid (∀ j,j<i→D1 L j)) (fun I _=>n - (intOf I).toNat)
 case atStart=>exact⟨0,Nat.zero_le _,rfl,q00,AC (fun j h=>by omega)⟩
 case round=>
  obtain⟨i,hil,rfl,q0,HK⟩:=hrel
  clear q00
  obtain⟨b0,b1,b2⟩:=Bf q0
  by_cases hlt:i<n
  ·have hltL:i<L.length:=by have:=HN.out;omega
   obtain⟨a,c',hv,ha,-,hat⟩:=HT.out.pick i hltL
   injection hv with e1 e2 e3
   subst e1 e3
   clear e2
   have hilt:(i:Int)<(n:Int):=by omega
   have NO1:Cd L[i]=false→R=false:=fun h=>HR.out.no fun o=>by have:=(o.2.2 i hltL).1;rw [h] at this;simp at this
   have NO2:∀ j (hj:j+1=i),L[i].n≤(L[j]'(by omega)).n→R=false:=fun j hj h2=>HR.out.no fun o=>by have:=(o.2.2 i hltL).2 j hj;omega
   have YES:Cd L[i]=true→(∀ j (hj:j+1=i),(L[j]'(by omega)).n<L[i].n)→∀ j,j<i+1→D1 L j:=fun h1 h2=>Ff HK.out fun _=>⟨h1,h2⟩
   have MK0:=AC fun b=>Ee L[i] b
   obtain⟨p,hp⟩:∃ p,p=L[i]:=⟨_,rfl⟩
   rw [← hp] at hat MK0
   simp only [← hp] at NO1 NO2 YES
   have HP:=AC hp
   clear hp
   obtain⟨x,d⟩:=p
   rw [prt] at MK0
   simp only at hat MK0 NO1 NO2 YES
   have HAT:Hid (∀ b,Q w b→b.cell? (a.add (i*2))=some (.int .i64 x)∧b.cell? ⟨(a.add (i*2)).block,(a.add (i*2)).off+1,none⟩=some (.string d)):=AC (fun b q=>hat b q)
   clear hat
   cases hm:Cd ⟨x,d⟩ with
   | false=>
     have MK:=MK0
     rw [hm] at MK
     have HV:=AC (NO1 hm)
     clear NO1 NO2 YES hm MK0
     have KS:Hid (∀ b,Q (w.alloc (.cells #[.int .u64 (id:Nat),.string key,.slice (some a) n c] 107)) b→(fun w'=>w'.cell? ⟨w.heap.size,2,none⟩=some (.slice (some a) n c)∧w'.cell? (a.add (i*2))=some (.int .i64 x)∧w'.cell? ⟨(a.add (i*2)).block,(a.add (i*2)).off+1,none⟩=some (.string d)∧Q (w.alloc (.cells #[.int .u64 (id:Nat),.string key,.slice (some a) n c] 107)) w') b):=AC (by
      intro b q
      obtain⟨c0,c1⟩:=HAT.out b (QW.out.trans q)
      obtain⟨-,-,b2⟩:=Bf q
      exact⟨b2,c0,c1,q⟩)
     have M1:Hid (∀ b,(fun w'=>w'.cell? ⟨w.heap.size,2,none⟩=some (.slice (some a) n c)∧w'.cell? (a.add (i*2))=some (.int .i64 x)∧w'.cell? ⟨(a.add (i*2)).block,(a.add (i*2)).off+1,none⟩=some (.string d)∧Q (w.alloc (.cells #[.int .u64 (id:Nat),.string key,.slice (some a) n c] 107)) w') b→Calls Tryz.prog 130 #[.agg #[.int .i64 x,.string d]] b fun e w'=>e=.returned (.bool false)∧(fun w'=>w'.cell? ⟨w.heap.size,2,none⟩=some (.slice (some a) n c)∧w'.cell? (a.add (i*2))=some (.int .i64 x)∧w'.cell? ⟨(a.add (i*2)).block,(a.add (i*2)).off+1,none⟩=some (.string d)∧Q (w.alloc (.cells #[.int .u64 (id:Nat),.string key,.slice (some a) n c] 107)) w') w'):=AC (by
      intro b h
      refine(MK.out b).mono ?_
      rintro e w' ⟨rfl,q'⟩
      exact⟨rfl,KS.out _ (Q.trans h.2.2.2 q')⟩)
     go_wp2_with fail
     refine wp_region_held_drew (S:=(fun w'=>w'.cell? ⟨w.heap.size,2,none⟩=some (.slice (some a) n c)∧w'.cell? (a.add (i*2))=some (.int .i64 x)∧w'.cell? ⟨(a.add (i*2)).block,(a.add (i*2)).off+1,none⟩=some (.string d)∧Q (w.alloc (.cells #[.int .u64 (id:Nat),.string key,.slice (some a) n c] 107)) w')) (by kernel_rfl) (KS.out _ q0.drew) (fun hHeld=>?_)
     refine tkV 0 ?_
     refine tkV 1 ?_
     refine tkV 2 ?_
     refine tkV 3 ?_
     refine tkV 4 ?_
     refine aR [5] ?_
     refine aC rfl (fun K hK=>?_) aN
     go_simp
     go_at_call 130
     refine(M1.out _ (by assumption)).mono ?_
     rintro e w' ⟨rfl,hS⟩
     refine hK.out _ _ hS (fun hHeld=>?_)
     clear hK K
     refine pg ?_
     refine tkV 6 ?_
     refine tkV 7 ?_
     refine tkU 8 ?_
     refine tkU 9 ?_
     refine tkU 10 ?_
     refine tkU 11 ?_
     refine tkU 12 ?_
     refine tkU 13 ?_
     refine tkU 14 ?_
     refine tkU 15 ?_
     refine tkU 16 ?_
     refine tkU 17 ?_
     refine tkU 18 ?_
     refine tkU 19 ?_
     refine tkU 20 ?_
     refine tkU 21 ?_
     refine tkU 22 ?_
     refine tkU 23 ?_
     refine tkU 24 ?_
     refine tkU 25 ?_
     refine tkV 26 ?_
     refine wpAnyH_done (by kernel_rfl) ?_ _
     have q:=hS.2.2.2
     clear KS M1
     go_wp2
     go_ret
     exact⟨AE (by rw [HV.out]),QW.out.trans q⟩
   | true=>
     have MK:=MK0
     rw [hm] at MK
     clear MK0
     by_cases hi0:i=0
     ·have HK2:=AC (YES hm (fun j hj=>by omega))
      have hi1:¬ (0:Int)<(i:Int):=by omega
      clear NO1 NO2 YES hm hi0
      have KS:Hid (∀ b,Q (w.alloc (.cells #[.int .u64 (id:Nat),.string key,.slice (some a) n c] 107)) b→(fun w'=>w'.cell? ⟨w.heap.size,2,none⟩=some (.slice (some a) n c)∧w'.cell? (a.add (i*2))=some (.int .i64 x)∧w'.cell? ⟨(a.add (i*2)).block,(a.add (i*2)).off+1,none⟩=some (.string d)∧Q (w.alloc (.cells #[.int .u64 (id:Nat),.string key,.slice (some a) n c] 107)) w') b):=AC (by
       intro b q
       obtain⟨c0,c1⟩:=HAT.out b (QW.out.trans q)
       obtain⟨-,-,b2⟩:=Bf q
       exact⟨b2,c0,c1,q⟩)
      have M1:Hid (∀ b,(fun w'=>w'.cell? ⟨w.heap.size,2,none⟩=some (.slice (some a) n c)∧w'.cell? (a.add (i*2))=some (.int .i64 x)∧w'.cell? ⟨(a.add (i*2)).block,(a.add (i*2)).off+1,none⟩=some (.string d)∧Q (w.alloc (.cells #[.int .u64 (id:Nat),.string key,.slice (some a) n c] 107)) w') b→Calls Tryz.prog 130 #[.agg #[.int .i64 x,.string d]] b fun e w'=>e=.returned (.bool true)∧(fun w'=>w'.cell? ⟨w.heap.size,2,none⟩=some (.slice (some a) n c)∧w'.cell? (a.add (i*2))=some (.int .i64 x)∧w'.cell? ⟨(a.add (i*2)).block,(a.add (i*2)).off+1,none⟩=some (.string d)∧Q (w.alloc (.cells #[.int .u64 (id:Nat),.string key,.slice (some a) n c] 107)) w') w'):=AC (by
       intro b h
       refine(MK.out b).mono ?_
       rintro e w' ⟨rfl,q'⟩
       exact⟨rfl,KS.out _ (Q.trans h.2.2.2 q')⟩)
      go_wp2_with fail
      refine wp_region_held_drew (S:=(fun w'=>w'.cell? ⟨w.heap.size,2,none⟩=some (.slice (some a) n c)∧w'.cell? (a.add (i*2))=some (.int .i64 x)∧w'.cell? ⟨(a.add (i*2)).block,(a.add (i*2)).off+1,none⟩=some (.string d)∧Q (w.alloc (.cells #[.int .u64 (id:Nat),.string key,.slice (some a) n c] 107)) w')) (by kernel_rfl) (KS.out _ q0.drew) (fun hHeld=>?_)
      refine tkV 0 ?_
      refine tkV 1 ?_
      refine tkV 2 ?_
      refine tkV 3 ?_
      refine tkV 4 ?_
      refine aR [5] ?_
      refine aC rfl (fun K hK=>?_) aN
      go_simp
      go_at_call 130
      refine(M1.out _ (by assumption)).mono ?_
      rintro e w' ⟨rfl,hS⟩
      refine hK.out _ _ hS (fun hHeld=>?_)
      clear hK K
      refine pg ?_
      refine tkV 6 ?_
      refine tkV 7 ?_
      refine tkV 8 ?_
      refine tkB 9 (.bool false) ?_
      refine tkV 10 ?_
      refine tkU 11 ?_
      refine tkU 12 ?_
      refine tkU 13 ?_
      refine tkU 14 ?_
      refine tkU 15 ?_
      refine tkU 16 ?_
      refine tkU 17 ?_
      refine tkU 18 ?_
      refine tkU 19 ?_
      refine tkU 20 ?_
      refine tkU 21 ?_
      refine tkU 22 ?_
      refine tkU 23 ?_
      refine tkU 24 ?_
      refine tkV 25 ?_
      refine tkV 26 ?_
      refine wpAnyH_done (by kernel_rfl) ?_ _
      have q:=hS.2.2.2
      clear KS M1
      go_wp2
      go_roundw
      case rel=>exact⟨i+1,by omega,by go_num,q,HK2⟩
      case measure=>simp [intOf];omega
     ·obtain⟨j,hj⟩:∃ j,j+1=i:=⟨i - 1,by omega⟩
      have hjl:j<L.length:=by omega
      obtain⟨a',c3,hv,-,-,hbt⟩:=HT.out.pick j hjl
      injection hv with e1 e2 e3
      injection e1 with e1
      subst e1
      obtain⟨y,hy⟩:∃ y,y=(L[j]'hjl).n:=⟨_,rfl⟩
      have HBT:Hid (∀ b,Q w b→b.cell? (a.add (j*2))=some (.int .i64 y)∧True):=AC (fun b q=>⟨by rw [hy];exact(hbt b q).1,trivial⟩)
      have HY:=AC hy
      have HJ:=AC hj
      have hi1:(0:Int)<(i:Int):=by omega
      have hi2:(i:Int) - 1=(j:Int):=by omega
      have wj:IntKind.i64.wrap (j:Int)=(j:Int):=by rw [IntKind.wrap_i64];omega
      have hj1:(j:Int)<(n:Int):=by omega
      by_cases hle:x≤y
      ·have HV:=AC (NO2 j hj (by rw [← hy];exact hle))
       clear NO1 NO2 YES hm hi0 hy hbt hj e2 e3
       have KS:Hid (∀ b,Q (w.alloc (.cells #[.int .u64 (id:Nat),.string key,.slice (some a) n c] 107)) b→(fun w'=>w'.cell? ⟨w.heap.size,2,none⟩=some (.slice (some a) n c)∧w'.cell? (a.add (i*2))=some (.int .i64 x)∧w'.cell? ⟨(a.add (i*2)).block,(a.add (i*2)).off+1,none⟩=some (.string d)∧w'.cell? (a.add (j*2))=some (.int .i64 y)∧Q (w.alloc (.cells #[.int .u64 (id:Nat),.string key,.slice (some a) n c] 107)) w') b):=AC (by
        intro b q
        obtain⟨c0,c1⟩:=HAT.out b (QW.out.trans q)
        obtain⟨-,-,b2⟩:=Bf q
        obtain⟨d0,-⟩:=HBT.out b (QW.out.trans q)
        exact⟨b2,c0,c1,d0,q⟩)
       have M1:Hid (∀ b,(fun w'=>w'.cell? ⟨w.heap.size,2,none⟩=some (.slice (some a) n c)∧w'.cell? (a.add (i*2))=some (.int .i64 x)∧w'.cell? ⟨(a.add (i*2)).block,(a.add (i*2)).off+1,none⟩=some (.string d)∧w'.cell? (a.add (j*2))=some (.int .i64 y)∧Q (w.alloc (.cells #[.int .u64 (id:Nat),.string key,.slice (some a) n c] 107)) w') b→Calls Tryz.prog 130 #[.agg #[.int .i64 x,.string d]] b fun e w'=>e=.returned (.bool true)∧(fun w'=>w'.cell? ⟨w.heap.size,2,none⟩=some (.slice (some a) n c)∧w'.cell? (a.add (i*2))=some (.int .i64 x)∧w'.cell? ⟨(a.add (i*2)).block,(a.add (i*2)).off+1,none⟩=some (.string d)∧w'.cell? (a.add (j*2))=some (.int .i64 y)∧Q (w.alloc (.cells #[.int .u64 (id:Nat),.string key,.slice (some a) n c] 107)) w') w'):=AC (by
        intro b h
        refine(MK.out b).mono ?_
        rintro e w' ⟨rfl,q'⟩
        exact⟨rfl,KS.out _ (Q.trans h.2.2.2.2 q')⟩)
       go_wp2_with fail
       refine wp_region_held_drew (S:=(fun w'=>w'.cell? ⟨w.heap.size,2,none⟩=some (.slice (some a) n c)∧w'.cell? (a.add (i*2))=some (.int .i64 x)∧w'.cell? ⟨(a.add (i*2)).block,(a.add (i*2)).off+1,none⟩=some (.string d)∧w'.cell? (a.add (j*2))=some (.int .i64 y)∧Q (w.alloc (.cells #[.int .u64 (id:Nat),.string key,.slice (some a) n c] 107)) w')) (by kernel_rfl) (KS.out _ q0.drew) (fun hHeld=>?_)
       refine tkV 0 ?_
       refine tkV 1 ?_
       refine tkV 2 ?_
       refine tkV 3 ?_
       refine tkV 4 ?_
       refine aR [5] ?_
       refine aC rfl (fun K hK=>?_) aN
       go_simp
       go_at_call 130
       refine(M1.out _ (by assumption)).mono ?_
       rintro e w' ⟨rfl,hS⟩
       refine hK.out _ _ hS (fun hHeld=>?_)
       clear hK K
       refine pg ?_
       refine tkV 6 ?_
       refine tkV 7 ?_
       refine tkV 8 ?_
       refine tkB 9 (.bool true) ?_
       refine tkV 10 ?_
       refine tkV 11 ?_
       refine tkV 12 ?_
       refine tkV 13 ?_
       refine tkV 14 ?_
       refine tkV 15 ?_
       refine tkV 16 ?_
       refine tkV 17 ?_
       refine tkV 18 ?_
       refine tkV 19 ?_
       refine tkV 20 ?_
       refine tkV 21 ?_
       refine tkV 22 ?_
       refine tkV 23 ?_
       refine tkV 24 ?_
       refine tkV 25 ?_
       refine tkV 26 ?_
       refine wpAnyH_done (by kernel_rfl) ?_ _
       have q:=hS.2.2.2.2
       clear KS M1
       go_wp2
       go_ret
       exact⟨AE (by rw [HV.out]),QW.out.trans q⟩
      ·have HK2:=AC (YES hm (fun j' hj'=>by obtain rfl:j'=j:=by{have:=HJ.out;omega};rw [← HY.out];omega))
       clear NO1 NO2 YES hm hi0 hy hbt hj e2 e3
       have KS:Hid (∀ b,Q (w.alloc (.cells #[.int .u64 (id:Nat),.string key,.slice (some a) n c] 107)) b→(fun w'=>w'.cell? ⟨w.heap.size,2,none⟩=some (.slice (some a) n c)∧w'.cell? (a.add (i*2))=some (.int .i64 x)∧w'.cell? ⟨(a.add (i*2)).block,(a.add (i*2)).off+1,none⟩=some (.string d)∧w'.cell? (a.add (j*2))=some (.int .i64 y)∧Q (w.alloc (.cells #[.int .u64 (id:Nat),.string key,.slice (some a) n c] 107)) w') b):=AC (by
        intro b q
        obtain⟨c0,c1⟩:=HAT.out b (QW.out.trans q)
        obtain⟨-,-,b2⟩:=Bf q
        obtain⟨d0,-⟩:=HBT.out b (QW.out.trans q)
        exact⟨b2,c0,c1,d0,q⟩)
       have M1:Hid (∀ b,(fun w'=>w'.cell? ⟨w.heap.size,2,none⟩=some (.slice (some a) n c)∧w'.cell? (a.add (i*2))=some (.int .i64 x)∧w'.cell? ⟨(a.add (i*2)).block,(a.add (i*2)).off+1,none⟩=some (.string d)∧w'.cell? (a.add (j*2))=some (.int .i64 y)∧Q (w.alloc (.cells #[.int .u64 (id:Nat),.string key,.slice (some a) n c] 107)) w') b→Calls Tryz.prog 130 #[.agg #[.int .i64 x,.string d]] b fun e w'=>e=.returned (.bool true)∧(fun w'=>w'.cell? ⟨w.heap.size,2,none⟩=some (.slice (some a) n c)∧w'.cell? (a.add (i*2))=some (.int .i64 x)∧w'.cell? ⟨(a.add (i*2)).block,(a.add (i*2)).off+1,none⟩=some (.string d)∧w'.cell? (a.add (j*2))=some (.int .i64 y)∧Q (w.alloc (.cells #[.int .u64 (id:Nat),.string key,.slice (some a) n c] 107)) w') w'):=AC (by
        intro b h
        refine(MK.out b).mono ?_
        rintro e w' ⟨rfl,q'⟩
        exact⟨rfl,KS.out _ (Q.trans h.2.2.2.2 q')⟩)
       go_wp2_with fail
       refine wp_region_held_drew (S:=(fun w'=>w'.cell? ⟨w.heap.size,2,none⟩=some (.slice (some a) n c)∧w'.cell? (a.add (i*2))=some (.int .i64 x)∧w'.cell? ⟨(a.add (i*2)).block,(a.add (i*2)).off+1,none⟩=some (.string d)∧w'.cell? (a.add (j*2))=some (.int .i64 y)∧Q (w.alloc (.cells #[.int .u64 (id:Nat),.string key,.slice (some a) n c] 107)) w')) (by kernel_rfl) (KS.out _ q0.drew) (fun hHeld=>?_)
       refine tkV 0 ?_
       refine tkV 1 ?_
       refine tkV 2 ?_
       refine tkV 3 ?_
       refine tkV 4 ?_
       refine aR [5] ?_
       refine aC rfl (fun K hK=>?_) aN
       go_simp
       go_at_call 130
       refine(M1.out _ (by assumption)).mono ?_
       rintro e w' ⟨rfl,hS⟩
       refine hK.out _ _ hS (fun hHeld=>?_)
       clear hK K
       refine pg ?_
       refine tkV 6 ?_
       refine tkV 7 ?_
       refine tkV 8 ?_
       refine tkB 9 (.bool true) ?_
       refine tkV 10 ?_
       refine tkV 11 ?_
       refine tkV 12 ?_
       refine tkV 13 ?_
       refine tkV 14 ?_
       refine tkV 15 ?_
       refine tkV 16 ?_
       refine tkV 17 ?_
       refine tkV 18 ?_
       refine tkV 19 ?_
       refine tkV 20 ?_
       refine tkV 21 ?_
       refine tkV 22 ?_
       refine tkV 23 ?_
       refine tkV 24 ?_
       refine tkV 25 ?_
       refine tkV 26 ?_
       refine wpAnyH_done (by kernel_rfl) ?_ _
       have q:=hS.2.2.2.2
       clear KS M1
       go_wp2
       go_roundw
       case rel=>exact⟨i+1,by omega,by go_num,q,HK2⟩
       case measure=>simp [intOf];omega
  ·have HO:Hid (okL L):=AC (G6 fun j h=>HK.out j (by have:=HN.out;omega))
   have hilt:¬ (i:Int)<(n:Int):=by omega
   have HE:Hid (Chk (Cl id key=true∧n≤30) R):=AC (by
    have:=HR.out
    rw [HN.out] at this
    rcases this with⟨e,h⟩ | ⟨e,h⟩
    ·exact .inl ⟨e,h.1,h.2.1⟩
    ·exact .inr ⟨e,fun k=>h ⟨k.1,k.2,HO.out⟩⟩)
   have C:=AC fun d=>Fp id d
   have K:=AC fun d=>Bn key d hk
   have q9:=QW.out.trans q0
   cases hn:Pa id with
   | false=>
     rw [hn] at C
     have HV:=AC (HE.out.no (fun o=>by have:=o.1;rw [Cl,hn] at this;simp at this))
     clear hn
     go_wp2_with fail
     refine(C.out _).mono ?_
     rintro e w1 ⟨rfl,rfl⟩
     go_wp2
     go_ret
     exact⟨AE (by rw [HV.out]),q9⟩
   | true=>
     rw [hn] at C
     cases hkk:BD 1 60 ko key with
     | false=>
       rw [hkk] at K
       have HV:=AC (HE.out.no (fun o=>by have:=o.1;rw [Cl,hn,hkk] at this;simp at this))
       clear hn hkk
       go_wp2_with fail
       refine(C.out _).mono ?_
       rintro e w1 ⟨rfl,rfl⟩
       go_wp2_with fail
       refine(K.out _).mono ?_
       rintro e w2 ⟨rfl,rfl⟩
       go_wp2
       go_ret
       exact⟨AE (by rw [HV.out]),q9⟩
     | true=>
       rw [hkk] at K
       have HB:Hid (Cl id key=true):=AC (by rw [Cl,hn,hkk];rfl)
       clear hn hkk
       by_cases h30:n≤30
       ·have h30':(n:Int)≤30:=by omega
        have HV:=AC (HE.out.yes ⟨HB.out,h30⟩)
        go_wp2_with fail
        refine(C.out _).mono ?_
        rintro e w1 ⟨rfl,rfl⟩
        go_wp2_with fail
        refine(K.out _).mono ?_
        rintro e w2 ⟨rfl,rfl⟩
        go_wp2
        go_ret
        exact⟨AE (by rw [HV.out];try (simp;try omega)),q9⟩
       ·have h30':¬ (n:Int)≤30:=by omega
        have HV:=AC (HE.out.no (fun o=>h30 o.2))
        go_wp2_with fail
        refine(C.out _).mono ?_
        rintro e w1 ⟨rfl,rfl⟩
        go_wp2_with fail
        refine(K.out _).mono ?_
        rintro e w2 ⟨rfl,rfl⟩
        go_wp2
        go_ret
        exact⟨AE (by rw [HV.out];try (simp;try omega)),q9⟩
end
end Go.Proofs.YtjjlbbfhmpbneaaGreat
