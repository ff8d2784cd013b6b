/-
  A box that nothing of versions, entries, parts, uploads and pieces can lie in: they stay where it is written. Buckets, and a bucket at work, in memory. What a bucket may be, and what each thing that is done to it comes to, without a word of memory. A bucket that may be stays one, whatever is done to it, without a word of memory. The chapter's examples, without a word of memory. Contract of give: the next number is given out. Contracts of the methods of a bucket at work: giveVersion, setVersions, turn. Contracts of the methods of a bucket at work: setVersions.
-/
import Derived.Test.YtjjlbbfhmpbneaaGreatLd
import Derived.Test.YtjjlbbfhmpbneaaGreatLh
import Derived.Test.YtjjlbbfhmpbneaaGreatLk
import Derived.Test.YtjjlbbfhmpbneaaGreatLg
import Derived.Test.YtjjlbbfhmpbneaaGreatLm
import Derived.Test.YtjjlbbfhmpbneaaGreatLo
import Derived.Shelf.Abstract
import Derived.Deep.DeepCutAuto
import Derived.Deep.RegionHeld3
import Derived.Laws.ResultCell
namespace Go.Proofs.YtjjlbbfhmpbneaaGreat
open Lib renaming hid → AC
set_option maxHeartbeats 16000000
set_option maxRecDepth 100000
set_option linter.unusedVariables false
set_option linter.unusedSimpArgs false
section
open Go.ChangeShapes Go.WideShapes Go.ChangeAt Go.RowKit
def Kp(p:Nat)(w w':World):Prop:=w.grownBy w' (some p)
theorem Kp.of{p:Nat}{w w':World}(q:Q w w'):Kp p w w':=⟨q.os,q.tape,q.output,q.size,fun k hk _=>q.block k hk⟩
theorem Kp.trans{p:Nat}{a b c:World}(h:Kp p a b)(k:Kp p b c):Kp p a c:=
 ⟨k.os.trans h.os,k.tape.trans h.tape,k.output.trans h.output,Nat.le_trans h.size k.size,fun i hi hn=>(k.block i (Nat.lt_of_lt_of_le hi h.size) hn).trans (h.block i hi hn)⟩
theorem Kp.set{p:Nat}{a b:World}(h:Kp p a b)(i:Nat)(u:Value):Kp p a (b.setCell ⟨p,i,none⟩ u):=h.trans (Ad b p i u)
theorem Kp.q{p:Nat}{w0 w w':World}(q:Q w0 w)(h:Kp p w w')(hp:w0.heap.size≤p):Q w0 w':=
 Below.grown q h q.size (fun k e=>by injection e with e;omega)
theorem Kp.bx{p B:Nat}{w w':World}{t:TypeId}{cs:Array Value}(h:Kp p w w')(b:Bx w B t cs)(hn:B≠p):Bx w' B t cs:=
 b.same (h.block B b.lt (fun e=>hn (by injection e)))
def OB:Value→Value→Bool
 | .string _,.slice _ _ _=>true
 | .string _,.bool _=>true
 | .int .i64 _,.string _=>true
 | .int .i64 _,.int .u32 _=>true
 | _,_=>false
def Ns:List Value→Bool
 | a :: b :: r=>!OB a b&&Ns (b :: r)
 | _=>true
theorem Jv:∀ (l:List Value) (o:Nat) (a b:Value),Ns l=true→l[o]?=some a→l[o+1]?=some b→OB a b=false
 | [],o,a,b,_,h,_=>by simp at h
 | [x],o,a,b,_,_,h=>by simp at h
 | x :: y :: r,0,a,b,h,h0,h1=>by
   simp at h0 h1
   subst h0 h1
   simp only [Ns,Bool.and_eq_true,Bool.not_eq_true'] at h
   exact h.1
 | x :: y :: r,o+1,a,b,h,h0,h1=>by
   simp only [Ns,Bool.and_eq_true] at h
   exact Jv (y :: r) o a b h.2 (by simpa using h0) (by simpa using h1)
def Calm(w:World)(p:Nat):Prop:=∃ t cs,Bx w p t cs∧Ns cs.toList=true
theorem Calm.no{w:World}{p:Nat}(h:Calm w p){o:Nat}{a b:Value}(h0:w.cell? ⟨p,o,none⟩=some a)(h1:w.cell? ⟨p,o+1,none⟩=some b):OB a b=false:=by
 obtain⟨t,cs,hb,hc⟩:=h
 rw [hb.cell] at h0 h1
 exact Jv cs.toList o a b hc (by simpa using h0) (by simpa using h1)
section
variable {w w':World} {p:Nat}
theorem Vers.kp{v:Value}{l:List Ver}(h:Vers w w.heap.size v l)(c:Calm w p)(g:Kp p w w'):Vers w' w'.heap.size v l:=by
 have hs:=g.size
 obtain⟨A',c',e,e0,ez,eo,f⟩:=h
 refine⟨A',c',e,e0,ez,eo,fun i hi=>?_⟩
 obtain⟨a,e1,e2,e3⟩:=f i hi
 refine⟨a,e1,by omega,?_⟩
 obtain⟨h0,h1,h2,h3⟩:=e3
 have hne:(a.add (i*4)).block≠p:=fun q=>by
  rw [q] at h1 h2
  have:=c.no (o:=(a.add (i*4)).off+1) h1 h2
  simp [OB] at this
 have hh:=g.block (a.add (i*4)).block (by rw [AG];omega) (fun e=>hne (by injection e))
 exact⟨(World.cell?_of_block hh).trans h0,(World.cell?_of_block (a:=⟨(a.add (i*4)).block,_,none⟩) hh).trans h1,(World.cell?_of_block (a:=⟨(a.add (i*4)).block,_,none⟩) hh).trans h2,(World.cell?_of_block (a:=⟨(a.add (i*4)).block,_,none⟩) hh).trans h3⟩
theorem Ents.kp{v:Value}{l:List Ent}(h:Ents w w.heap.size v l)(c:Calm w p)(g:Kp p w w'):Ents w' w'.heap.size v l:=by
 have hs:=g.size
 obtain⟨A',c',e,e0,ez,eo,f⟩:=h
 refine⟨A',c',e,e0,ez,eo,fun i hi=>?_⟩
 obtain⟨a,e1,e2,h1,u,h2,h3⟩:=f i hi
 obtain⟨A3,c3,hu⟩:=h3.form
 have hne:(a.add (i*2)).block≠p:=fun q=>by
  have k1:=h1;have k2:=h2
  rw [q,hu] at k2
  generalize a.add (i*2)=r at q k1 k2
  obtain⟨b,o,x⟩:=r
  simp only at q k2
  subst q
  match x with
  | none=>have:=c.no k1 k2;simp [OB] at this
  | some x=>
    obtain⟨t,cs,hb,hc⟩:=c
    simp [World.cell?,show w.heap[b]?=_ from hb] at k1
 have hh:=g.block (a.add (i*2)).block (by rw [AG];omega) (fun e=>hne (by injection e))
 exact⟨a,e1,by omega,(World.cell?_of_block hh).trans h1,u,(World.cell?_of_block (a:=⟨(a.add (i*2)).block,_,none⟩) hh).trans h2,h3.kp c g⟩
theorem Prts.kp{v:Value}{l:List Prt}(h:Prts w w.heap.size v l)(c:Calm w p)(g:Kp p w w'):Prts w' w'.heap.size v l:=by
 have hs:=g.size
 obtain⟨A',c',e,e0,ez,eo,f⟩:=h
 refine⟨A',c',e,e0,ez,eo,fun i hi=>?_⟩
 obtain⟨a,e1,e2,e3⟩:=f i hi
 refine⟨a,e1,by omega,?_⟩
 have hne:(a.add (i*2)).block≠p:=fun q=>by
  obtain⟨k1,k2⟩:=e3
  generalize a.add (i*2)=r at q k1 k2
  obtain⟨b,o,x⟩:=r
  simp only at q k2
  subst q
  match x with
  | none=>have:=c.no k1 k2;simp [OB] at this
  | some x=>
    obtain⟨t,cs,hb,hc⟩:=c
    simp [World.cell?,show w.heap[b]?=_ from hb] at k1
 have hh:=g.block (a.add (i*2)).block (by rw [AG];omega) (fun e=>hne (by injection e))
 exact⟨(World.cell?_of_block hh).trans e3.1,(World.cell?_of_block (a:=⟨(a.add (i*2)).block,_,none⟩) hh).trans e3.2⟩
theorem Upls.kp{v:Value}{l:List Upl}(h:Upls w w.heap.size v l)(c:Calm w p)(g:Kp p w w'):Upls w' w'.heap.size v l:=by
 have hs:=g.size
 obtain⟨A',c',e,e0,ez,eo,f⟩:=h
 refine⟨A',c',e,e0,ez,eo,fun i hi=>?_⟩
 obtain⟨a,e1,e2,h0,h1,u,h2,h3⟩:=f i hi
 obtain⟨A3,c3,hu⟩:=h3.form
 have hne:(a.add (i*3)).block≠p:=fun q=>by
  have k1:=h1;have k2:=h2
  rw [q] at k1
  rw [q,hu] at k2
  have:=c.no (o:=(a.add (i*3)).off+1) k1 k2
  simp [OB] at this
 have hh:=g.block (a.add (i*3)).block (by rw [AG];omega) (fun e=>hne (by injection e))
 exact⟨a,e1,by omega,(World.cell?_of_block hh).trans h0,(World.cell?_of_block (a:=⟨(a.add (i*3)).block,_,none⟩) hh).trans h1,u,(World.cell?_of_block (a:=⟨(a.add (i*3)).block,_,none⟩) hh).trans h2,h3.kp c g⟩
theorem Pces.kp{v:Value}{l:List Pce}(h:Pces w w.heap.size v l)(c:Calm w p)(g:Kp p w w'):Pces w' w'.heap.size v l:=by
 have hs:=g.size
 obtain⟨A',c',e,e0,ez,eo,f⟩:=h
 refine⟨A',c',e,e0,ez,eo,fun i hi=>?_⟩
 obtain⟨a,e1,e2,e3⟩:=f i hi
 refine⟨a,e1,by omega,?_⟩
 have hne:(a.add (i*2)).block≠p:=fun q=>by
  obtain⟨k1,k2⟩:=e3
  generalize a.add (i*2)=r at q k1 k2
  obtain⟨b,o,x⟩:=r
  simp only at q k2
  subst q
  match x with
  | none=>have:=c.no k1 k2;simp [OB] at this
  | some x=>
    obtain⟨t,cs,hb,hc⟩:=c
    simp [World.cell?,show w.heap[b]?=_ from hb] at k1
 have hh:=g.block (a.add (i*2)).block (by rw [AG];omega) (fun e=>hne (by injection e))
 exact⟨(World.cell?_of_block hh).trans e3.1,(World.cell?_of_block (a:=⟨(a.add (i*2)).block,_,none⟩) hh).trans e3.2⟩
end
structure Bkt where
 name:ByteArray
 st:Int
 L:List Ent
 U:List Upl
 last:Nat
def bkt(b:Bkt)(lv uv:Value):Value:=.agg #[.string b.name,.int .i64 b.st,lv,uv,.int .u64 (b.last:Nat)]
def BktV(w:World)(b:Bkt)(lv uv:Value):Prop:=Ents w w.heap.size lv b.L∧Upls w w.heap.size uv b.U
theorem BktV.on{w w':World}{b:Bkt}{lv uv:Value}(h:BktV w b lv uv)(q:Q w w'):BktV w' b lv uv:=⟨h.1.on q,h.2.on q⟩
theorem BktV.kp{w w':World}{b:Bkt}{lv uv:Value}{p:Nat}(h:BktV w b lv uv)(c:Calm w p)(g:Kp p w w'):BktV w' b lv uv:=⟨h.1.kp c g,h.2.kp c g⟩
def wcl(b:Bkt)(A1:Option Addr)(c1:Nat)(A2:Option Addr)(c2:Nat)(n t:Nat)(s:ByteArray):Array Value:=
 #[.string b.name,.int .i64 b.st,.slice A1 b.L.length c1,.slice A2 b.U.length c2,.int .u64 (b.last:Nat),.int .u64 (n:Nat),.int .u32 (t:Nat),.string s]
def Wk(w:World)(p:Nat)(b:Bkt)(n t:Nat)(s:ByteArray):Prop:=
 ∃ A1 c1 A2 c2,Bx w p 109 (wcl b A1 c1 A2 c2 n t s)∧BktV w b (.slice A1 b.L.length c1) (.slice A2 b.U.length c2)
theorem Ap{w:World}{p:Nat}{b:Bkt}{A1 A2:Option Addr}{c1 c2 n t:Nat}{s:ByteArray}(h:Bx w p 109 (wcl b A1 c1 A2 c2 n t s)):Calm w p:=
 ⟨_,_,h,rfl⟩
theorem Wk.calm{w:World}{p:Nat}{b:Bkt}{n t:Nat}{s:ByteArray}(h:Wk w p b n t s):Calm w p:=by
 obtain⟨A1,c1,A2,c2,h,-⟩:=h
 exact Ap h
theorem Wk.on{w w':World}{p:Nat}{b:Bkt}{n t:Nat}{s:ByteArray}(h:Wk w p b n t s)(q:Q w w'):Wk w' p b n t s:=by
 obtain⟨A1,c1,A2,c2,h,k⟩:=h
 exact⟨A1,c1,A2,c2,h.on q,k.on q⟩
theorem AO{w:World}{p:Nat}{b:Bkt}{A1 A2:Option Addr}{c1 c2 n t:Nat}{s:ByteArray}(h:Bx w p 109 (wcl b A1 c1 A2 c2 n t s)):
  (w.cell? ⟨p,0,none⟩=some (.string b.name)∧w.cell? ⟨p,1,none⟩=some (.int .i64 b.st)∧w.cell? ⟨p,2,none⟩=some (.slice A1 b.L.length c1)∧w.cell? ⟨p,3,none⟩=some (.slice A2 b.U.length c2)∧w.cell? ⟨p,4,none⟩=some (.int .u64 (b.last:Nat))
   ∧w.cell? ⟨p,5,none⟩=some (.int .u64 (n:Nat))∧w.cell? ⟨p,6,none⟩=some (.int .u32 (t:Nat))∧w.cell? ⟨p,7,none⟩=some (.string s))∧
  (w.frozen? ⟨p,0,none⟩=false∧w.frozen? ⟨p,1,none⟩=false∧w.frozen? ⟨p,2,none⟩=false∧w.frozen? ⟨p,3,none⟩=false∧w.frozen? ⟨p,4,none⟩=false∧w.frozen? ⟨p,5,none⟩=false∧w.frozen? ⟨p,6,none⟩=false∧w.frozen? ⟨p,7,none⟩=false):=by
 refine⟨⟨?_,?_,?_,?_,?_,?_,?_,?_⟩,h.frozen 0,h.frozen 1,h.frozen 2,h.frozen 3,h.frozen 4,h.frozen 5,h.frozen 6,h.frozen 7⟩ <;> (rw [h.cell];rfl)
end
section
open Go.ChangeShapes Go.WideShapes Go.ChangeAt Go.RowKit
def noS:ByteArray:=⟨#[]⟩
def EE(b:Bkt):Nat:=if b.st=0 then 0 else b.last
def B8(l:List Ent)(m:Nat):Prop:=∀ e∈l,∀ x∈e.L,x.id≤m
def Fo(l:List Upl)(m:Nat):Prop:=∀ u∈l,u.id≤m
def PQ(b:Bkt):Prop:=B8 b.L (EE b)∧Fo b.U b.last
def Bz(b:Bkt):Nat:=FQ b.L+DD b.U
def okB(b:Bkt):Prop:=Al b.name=true∧(0≤b.st∧b.st≤2)∧b.last≤281474976710655∧okI b.L∧Ab b.U∧PQ b∧Bz b≤20000
def smB(b:Bkt):Prop:=b.name.size≤1000∧By b.L∧smL b.U∧b.last<18446744073709551616∧-9223372036854775808≤b.st∧b.st≤9223372036854775807
def Lb(b:Bkt)(n:Nat)(d:Bkt)(m k:Nat):Prop:=
 (281474976710655≤b.last∧d=b∧m=n∧k=6)∨(b.last<281474976710655∧d = {b with last:=b.last+1}∧m=b.last+1∧k=0)
theorem Jf(b:Bkt)(n:Nat):∃ d m k,Lb b n d m k:=by
 by_cases h:281474976710655≤b.last
 ·exact⟨_,_,_,.inl ⟨h,rfl,rfl,rfl⟩⟩
 ·exact⟨_,_,_,.inr ⟨by omega,rfl,rfl,rfl⟩⟩
def Si(b:Bkt)(n:Nat)(key:ByteArray)(d:Bkt)(m k:Nat):Prop:=
 (BD 1 60 ko key=false∧d=b∧m=n∧k=1)∨(BD 1 60 ko key=true∧b.st≠1∧d=b∧m=n∧k=0)∨(BD 1 60 ko key=true∧b.st=1∧Lb b n d m k)
theorem M7(b:Bkt)(n:Nat)(key:ByteArray):∃ d m k,Si b n key d m k:=by
 cases h:BD 1 60 ko key with
 | false=>exact⟨_,_,_,.inl ⟨h,rfl,rfl,rfl⟩⟩
 | true=>
   by_cases h1:b.st=1
   ·obtain⟨d,m,k,g⟩:=Jf b n
    exact⟨d,m,k,.inr (.inr ⟨h,h1,g⟩)⟩
   ·exact⟨_,_,_,.inr (.inl ⟨h,h1,rfl,rfl,rfl⟩)⟩
def Sm(b:Bkt)(key:ByteArray)(M:List Ver→Nat→Prop)(d:Bkt)(k:Nat):Prop:=
 ∃ l e,M l e∧((e≠0∧d=b∧k=e)∨(e=0∧∃ L j,OE b.L key l L j∧d = {b with L:=L}∧k=j))
theorem IT(b:Bkt)(key:ByteArray){M:List Ver→Nat→Prop}(h:∃ l e,M l e):∃ d k,Sm b key M d k:=by
 obtain⟨l,e,h⟩:=h
 by_cases h0:e=0
 ·obtain⟨L,j,g⟩:=RL b.L key l
  exact⟨_,_,l,e,h,.inr ⟨h0,L,j,g,rfl,rfl⟩⟩
 ·exact⟨_,_,l,e,h,.inl ⟨h0,rfl,rfl⟩⟩
def TZ(b:Bkt)(n:Nat)(key data:ByteArray)(tm:Int)(d:Bkt)(m k:Nat):Prop:=
 ∃ b1 m1 k1,Si b n key b1 m1 k1∧((k1≠0∧d=b1∧m=m1∧k=k1)∨(k1=0∧m=m1∧Sm b1 key (PutC (BY b1.L key) b1.st ⟨m1,data,false,tm⟩) d k))
theorem II(b:Bkt)(n:Nat)(key data:ByteArray)(tm:Int):∃ d m k,TZ b n key data tm d m k:=by
 obtain⟨b1,m1,k1,h⟩:=M7 b n key
 by_cases h0:k1=0
 ·obtain⟨d,k,g⟩:=IT b1 key (GM (BY b1.L key) b1.st ⟨m1,data,false,tm⟩)
  exact⟨d,m1,k,b1,m1,k1,h,.inr ⟨h0,rfl,g⟩⟩
 ·exact⟨b1,m1,k1,b1,m1,k1,h,.inl ⟨h0,rfl,rfl,rfl⟩⟩
def Tg(b:Bkt)(n:Nat)(key:ByteArray)(tm:Int)(d:Bkt)(m k:Nat):Prop:=
 ∃ b1 m1 k1,Si b n key b1 m1 k1∧((k1≠0∧d=b1∧m=m1∧k=k1)∨(k1=0∧m=m1∧Sm b1 key (J1 (BY b1.L key) b1.st m1 tm) d k))
theorem Qy(b:Bkt)(n:Nat)(key:ByteArray)(tm:Int):∃ d m k,Tg b n key tm d m k:=by
 obtain⟨b1,m1,k1,h⟩:=M7 b n key
 by_cases h0:k1=0
 ·obtain⟨d,k,g⟩:=IT b1 key (SP (BY b1.L key) b1.st m1 tm)
  exact⟨d,m1,k,b1,m1,k1,h,.inr ⟨h0,rfl,g⟩⟩
 ·exact⟨b1,m1,k1,b1,m1,k1,h,.inl ⟨h0,rfl,rfl,rfl⟩⟩
def Qg(b:Bkt)(key:ByteArray)(id:Nat)(d:Bkt)(k:Nat):Prop:=
 (BD 1 60 ko key=false∧d=b∧k=1)∨(BD 1 60 ko key=true∧Sm b key (DropC (BY b.L key) id) d k)
theorem OT(b:Bkt)(key:ByteArray)(id:Nat):∃ d k,Qg b key id d k:=by
 cases h:BD 1 60 ko key with
 | false=>exact⟨_,_,.inl ⟨h,rfl,rfl⟩⟩
 | true=>
   obtain⟨d,k,g⟩:=IT b key (Jq (BY b.L key) id)
   exact⟨d,k,.inr ⟨h,g⟩⟩
def Hp(s:Int):Bool:=decide (0≤s)&&decide (s≤2)
def Qf(b:Bkt)(s:Int)(d:Bkt)(k:Nat):Prop:=
 (Hp s=false∧d=b∧k=1)∨(Hp s=true∧s=0∧b.st≠0∧d=b∧k=8)∨(Hp s=true∧(s=0→b.st=0)∧d = {b with st:=s}∧k=0)
theorem OJ(b:Bkt)(s:Int):∃ d k,Qf b s d k:=by
 cases h:Hp s with
 | false=>exact⟨_,_,.inl ⟨h,rfl,rfl⟩⟩
 | true=>
   by_cases h1:s=0
   ·by_cases h2:b.st=0
    ·exact⟨_,_,.inr (.inr ⟨h,fun _=>h2,rfl,rfl⟩)⟩
    ·exact⟨_,_,.inr (.inl ⟨h,h1,h2,rfl,rfl⟩)⟩
   ·exact⟨_,_,.inr (.inr ⟨h,fun e=>absurd e h1,rfl,rfl⟩)⟩
def Th(b:Bkt)(n:Nat)(key:ByteArray)(d:Bkt)(m k:Nat):Prop:=
 (BD 1 60 ko key=false∧d=b∧m=n∧k=1)∨(BD 1 60 ko key=true∧∃ b1 m1 k1,Lb b n b1 m1 k1∧((k1≠0∧d=b1∧m=m1∧k=k1)∨(k1=0∧m=m1∧∃ U,BeginC b1.U m1 key U k∧d = {b1 with U:=U})))
theorem Q1(b:Bkt)(n:Nat)(key:ByteArray):∃ d m k,Th b n key d m k:=by
 cases h:BD 1 60 ko key with
 | false=>exact⟨_,_,_,.inl ⟨h,rfl,rfl,rfl⟩⟩
 | true=>
   obtain⟨b1,m1,k1,g⟩:=Jf b n
   by_cases h0:k1=0
   ·obtain⟨U,e,f⟩:=Nu b1.U m1 key
    exact⟨_,m1,e,.inr ⟨h,b1,m1,k1,g,.inr ⟨h0,rfl,U,f,rfl⟩⟩⟩
   ·exact⟨b1,m1,k1,.inr ⟨h,b1,m1,k1,g,.inl ⟨h0,rfl,rfl,rfl⟩⟩⟩
def Tf(b:Bkt)(id:Nat)(p:Prt)(d:Bkt)(t k:Nat):Prop:=∃ U,LayC b.U id p U t k∧d = {b with U:=U}
theorem Qu(b:Bkt)(id:Nat)(p:Prt):∃ d t k,Tf b id p d t k:=by
 obtain⟨U,t,k,h⟩:=Rk b.U id p
 exact⟨_,t,k,U,h,rfl⟩
def Ti(b:Bkt)(id:Nat)(d:Bkt)(k:Nat):Prop:=∃ U,AbortC b.U id U k∧d = {b with U:=U}
theorem Q3(b:Bkt)(id:Nat):∃ d k,Ti b id d k:=by
 obtain⟨U,k,h⟩:=IB b.U id
 exact⟨_,k,U,h,rfl⟩
def Te(b:Bkt)(n:Nat)(id:Nat)(P:List Pce)(tm:Int)(d:Bkt)(m:Nat)(s:ByteArray)(k:Nat):Prop:=
 ∃ u e,FindC b.U id u e∧((e≠0∧d=b∧m=n∧s=noS∧k=e)∨(e=0∧∃ S T f,WholeC u P S T f∧((f≠0∧d=b∧m=n∧s=noS∧k=f)∨
  (f=0∧s=mk T∧∃ U g,AbortC b.U id U g∧TZ {b with U:=U} n u.key (mk S) tm d m k))))
theorem Qs(b:Bkt)(n:Nat)(id:Nat)(P:List Pce)(tm:Int):∃ d m s k,Te b n id P tm d m s k:=by
 obtain⟨u,e,h⟩:=Ji b.U id
 by_cases h0:e=0
 ·obtain⟨S,T,f,g⟩:=Lq u P
  by_cases h1:f=0
  ·obtain⟨U,j,a⟩:=IB b.U id
   obtain⟨d,m,k,p⟩:=II {b with U:=U} n u.key (mk S) tm
   exact⟨d,m,mk T,k,u,e,h,.inr ⟨h0,S,T,f,g,.inr ⟨h1,rfl,U,j,a,p⟩⟩⟩
  ·exact⟨b,n,noS,f,u,e,h,.inr ⟨h0,S,T,f,g,.inl ⟨h1,rfl,rfl,rfl,rfl⟩⟩⟩
 ·exact⟨b,n,noS,e,u,e,h,.inl ⟨h0,rfl,rfl,rfl,rfl⟩⟩
def BC(b:Bkt)(R:Bkt→Nat→Nat→ByteArray→Nat→Prop)(d:Bkt)(n t:Nat)(s:ByteArray)(k:Nat):Prop:=
 (¬ okB b∧(d=b∧n=0∧t=0∧s=noS)∧k=1)∨(okB b∧∃ d1 n1 t1 s1 k1,R d1 n1 t1 s1 k1∧
  ((k1≠0∧(d=b∧n=0∧t=0∧s=noS)∧k=k1)∨(k1=0∧20000<Bz d1∧(d=b∧n=0∧t=0∧s=noS)∧k=6)∨(k1=0∧Bz d1≤20000∧(d=d1∧n=n1∧t=t1∧s=s1)∧k=0)))
theorem Rp(b:Bkt){R:Bkt→Nat→Nat→ByteArray→Nat→Prop}(h:∃ d n t s k,R d n t s k):∃ d n t s k,BC b R d n t s k:=by
 obtain⟨d1,n1,t1,s1,k1,h⟩:=h
 by_cases hb:okB b
 ·by_cases h0:k1=0
  ·by_cases h2:Bz d1≤20000
   ·exact⟨_,_,_,_,_,.inr ⟨hb,d1,n1,t1,s1,k1,h,.inr (.inr ⟨h0,h2,⟨rfl,rfl,rfl,rfl⟩,rfl⟩)⟩⟩
   ·exact⟨_,_,_,_,_,.inr ⟨hb,d1,n1,t1,s1,k1,h,.inr (.inl ⟨h0,by omega,⟨rfl,rfl,rfl,rfl⟩,rfl⟩)⟩⟩
  ·exact⟨_,_,_,_,_,.inr ⟨hb,d1,n1,t1,s1,k1,h,.inl ⟨h0,⟨rfl,rfl,rfl,rfl⟩,rfl⟩⟩⟩
 ·exact⟨_,_,_,_,_,.inl ⟨hb,⟨rfl,rfl,rfl,rfl⟩,rfl⟩⟩
def ID(b:Bkt)(key data:ByteArray)(tm:Int):Bkt→Nat→Nat→ByteArray→Nat→Prop:=fun d n t s k=>TZ b 0 key data tm d n k∧t=0∧s=noS
def N2(b:Bkt)(key:ByteArray)(tm:Int):Bkt→Nat→Nat→ByteArray→Nat→Prop:=fun d n t s k=>Tg b 0 key tm d n k∧t=0∧s=noS
def FP(b:Bkt)(key:ByteArray)(id:Nat):Bkt→Nat→Nat→ByteArray→Nat→Prop:=fun d n t s k=>Qg b key id d k∧n=0∧t=0∧s=noS
def FO(b:Bkt)(st:Int):Bkt→Nat→Nat→ByteArray→Nat→Prop:=fun d n t s k=>Qf b st d k∧n=0∧t=0∧s=noS
def N7(b:Bkt)(key:ByteArray):Bkt→Nat→Nat→ByteArray→Nat→Prop:=fun d n t s k=>Th b 0 key d n k∧t=0∧s=noS
def N1(b:Bkt)(id:Nat)(p:Prt):Bkt→Nat→Nat→ByteArray→Nat→Prop:=fun d n t s k=>Tf b id p d t k∧n=0∧s=noS
def Lc(b:Bkt)(id:Nat):Bkt→Nat→Nat→ByteArray→Nat→Prop:=fun d n t s k=>Ti b id d k∧n=0∧t=0∧s=noS
def Nz(b:Bkt)(id:Nat)(P:List Pce)(tm:Int):Bkt→Nat→Nat→ByteArray→Nat→Prop:=fun d n t s k=>Te b 0 id P tm d n s k∧t=0
end
section
open Go.ChangeShapes Go.WideShapes Go.ChangeAt Go.RowKit
theorem Hk{l:List Ent}(h:okI l):By l∧∀ e∈l,e.L.length≤900:=by
 obtain⟨h0,-,h1⟩:=Et.1 h
 refine⟨⟨by omega,fun e he=>?_⟩,fun e he=>?_⟩
 ·obtain⟨k1,-,k3⟩:=h1 e he
  obtain⟨p0,p1,-⟩:=Ci.1 k3
  refine⟨?_,by omega,fun x hx=>?_⟩
  ·simp only [BD,Bool.and_eq_true,decide_eq_true_eq] at k1
   omega
  ·have:=p1 x hx
   simp only [B9,Bool.and_eq_true,decide_eq_true_eq] at this
   omega
 ·obtain⟨-,-,k3⟩:=h1 e he
  have:=(Ci.1 k3).1
  omega
def okQ(b:Bkt):Prop:=Al b.name=true∧(0≤b.st∧b.st≤2)∧b.last≤281474976710655∧okI b.L∧Ab b.U∧PQ b
theorem Dl{b:Bkt}: okB b↔okQ b∧Bz b≤20000:=by
 unfold okB okQ
 constructor
 ·rintro⟨a,b,c,d,e,f,g⟩;exact⟨⟨a,b,c,d,e,f⟩,g⟩
 ·rintro⟨⟨a,b,c,d,e,f⟩,g⟩;exact⟨a,b,c,d,e,f,g⟩
theorem Er{l:List Ent}{m k:Nat}(h:B8 l m)(hk:m≤k):B8 l k:=fun e he x hx=>Nat.le_trans (h e he x hx) hk
theorem Ik{l:List Upl}{m k:Nat}(h:Fo l m)(hk:m≤k):Fo l k:=fun u hu=>Nat.le_trans (h u hu) hk
theorem Kc{l:List Ent}{key:ByteArray}{c:List Ver}{m:Nat}(h:B8 l m)(hc:∀ x∈c,x.id≤m):B8 (B6 l key c) m:=fun e he x hx=>by
 rcases JI he with he | ⟨rfl,-⟩
 ·exact h e he x hx
 ·exact hc x hx
theorem GW{l:List Ent}{m:Nat}(key:ByteArray)(h:B8 l m):∀ x∈BY l key,x.id≤m:=by
 rcases Da l key with e | ⟨y,hy,e⟩
 ·rw [e];simp
 ·rw [e];exact h y hy
theorem JJ{l L:List Ver}{s:Int}{x:Ver}{c m:Nat}(h:PutC l s x L c)(hl:∀ y∈l,y.id≤m)(hx:x.id≤m):∀ y∈L,y.id≤m:=by
 cases h
 case on=>intro y hy;rcases List.mem_cons.1 hy with rfl | hy;exact hx;exact hl y hy
 case over=>
  intro y hy
  rcases List.mem_cons.1 hy with rfl | hy
  ·show 0≤m;omega
  ·exact hl y (Gy.1 hy).1
 all_goals simp
theorem Hx{l L:List Ver}{id c m:Nat}(h:DropC l id L c)(hl:∀ y∈l,y.id≤m):∀ y∈L,y.id≤m:=by
 cases h
 case yes=>exact fun y hy=>hl y (Gy.1 hy).1
 all_goals simp
theorem QN{l L:List Ver}{s:Int}{id:Nat}{tm:Int}{c m:Nat}(h:J1 l s id tm L c)(hl:∀ y∈l,y.id≤m)(hi:id≤m):∀ y∈L,y.id≤m:=by
 rcases h with⟨-,h⟩ | ⟨-,h⟩
 ·exact Hx h hl
 ·exact JJ h hl (by show(if s=2 then 0 else id)≤m;split <;> omega)
theorem M5{b d:Bkt}{n m:Nat}(h:okQ b)(g:Lb b n d m 0):okQ d∧d.L=b.L∧d.U=b.U∧d.st=b.st∧m=d.last∧d.last=b.last+1:=by
 rcases g with⟨-,-,-,h0⟩ | ⟨h0,rfl,rfl,-⟩
 ·exact absurd h0 (by decide)
 ·obtain⟨h1,h2,h3,h4,h5,h6,h7⟩:=h
  refine⟨⟨h1,h2,by show b.last+1≤_;omega,h4,h5,Er h6 ?_,Ik h7 (by show b.last≤b.last+1;omega)⟩,rfl,rfl,rfl,rfl,rfl⟩
  show(if b.st=0 then 0 else b.last)≤(if b.st=0 then 0 else b.last+1)
  split <;> omega
theorem M6{b d:Bkt}{n m:Nat}{key:ByteArray}(h:okQ b)(hn:n≤EE b)(g:Si b n key d m 0):okQ d∧d.L=b.L∧d.U=b.U∧d.st=b.st∧m≤EE d∧BD 1 60 ko key=true:=by
 rcases g with⟨-,-,-,h0⟩ | ⟨hk,h1,rfl,rfl,-⟩ | ⟨hk,h1,g⟩
 ·exact absurd h0 (by decide)
 ·exact⟨h,rfl,rfl,rfl,hn,hk⟩
 ·obtain⟨a1,a2,a3,a4,a5,a6⟩:=M5 h g
  refine⟨a1,a2,a3,a4,?_,hk⟩
  unfold EE
  rw [a4,h1,a5]
  simp
theorem Lx{b d:Bkt}{key:ByteArray}{M:List Ver→Nat→Prop}(h:okQ b)(hk:BD 1 60 ko key=true)(hm:∀ l,M l 0→okP l∧∀ x∈l,x.id≤EE b)(g:Sm b key M d 0):okQ d∧d.U=b.U∧d.st=b.st∧d.last=b.last:=by
 obtain⟨l,e,hM,⟨h0,-,rfl⟩ | ⟨rfl,L,j,hP,rfl,rfl⟩⟩:=g
 ·exact absurd rfl h0
 ·obtain⟨h1,h2,h3,h4,h5,h6,h7⟩:=h
  obtain⟨m1,m2⟩:=hm l hM
  rcases hP with⟨-,-,h0⟩ | ⟨⟨-,-,-⟩,⟨-,-,h0⟩ | ⟨hl,rfl,-⟩⟩
  ·exact absurd h0 (by decide)
  ·exact absurd h0 (by decide)
  ·exact⟨⟨h1,h2,h3,Mh h4 hk m1 hl,h5,Kc h6 m2,h7⟩,rfl,rfl,rfl⟩
theorem Ll{b d:Bkt}{n m:Nat}{key data:ByteArray}{tm:Int}(h:okQ b)(hn:n≤EE b)(g:TZ b n key data tm d m 0):okQ d:=by
 obtain⟨b1,m1,k1,hg,⟨h0,-,-,rfl⟩ | ⟨rfl,rfl,hs⟩⟩:=g
 ·exact absurd rfl h0
 ·obtain⟨a1,a2,a3,a4,a5,a6⟩:=M6 h hn hg
  exact(Lx a1 a6 (fun l hl=>⟨Cg hl,JJ hl (GW key a1.2.2.2.2.2.1) a5⟩) hs).1
theorem Qx{b d:Bkt}{n m:Nat}{key:ByteArray}{tm:Int}(h:okQ b)(hn:n≤EE b)(g:Tg b n key tm d m 0):okQ d:=by
 obtain⟨b1,m1,k1,hg,⟨h0,-,-,rfl⟩ | ⟨rfl,rfl,hs⟩⟩:=g
 ·exact absurd rfl h0
 ·obtain⟨a1,a2,a3,a4,a5,a6⟩:=M6 h hn hg
  exact(Lx a1 a6 (fun l hl=>⟨I2 hl,QN hl (GW key a1.2.2.2.2.2.1) a5⟩) hs).1
theorem OS{b d:Bkt}{key:ByteArray}{id:Nat}(h:okQ b)(g:Qg b key id d 0):okQ d:=by
 rcases g with⟨-,-,h0⟩ | ⟨hk,hs⟩
 ·exact absurd h0 (by decide)
 ·exact(Lx h hk (fun l hl=>⟨Gc hl,Hx hl (GW key h.2.2.2.2.2.1)⟩) hs).1
theorem OI{b d:Bkt}{s:Int}(h:okQ b)(g:Qf b s d 0):okQ d:=by
 rcases g with⟨-,-,h0⟩ | ⟨-,-,-,-,h0⟩ | ⟨hs,h0,rfl,-⟩
 ·exact absurd h0 (by decide)
 ·exact absurd h0 (by decide)
 ·obtain⟨h1,h2,h3,h4,h5,h6,h7⟩:=h
  refine⟨h1,?_,h3,h4,h5,Er h6 ?_,h7⟩
  ·simpa [Hp] using hs
  ·show(if b.st=0 then 0 else b.last)≤(if s=0 then 0 else b.last)
   by_cases hz:s=0
   ·rw [if_pos (h0 hz)];omega
   ·rw [if_neg hz];split <;> omega
theorem Qz{b d:Bkt}{n m:Nat}{key:ByteArray}(h:okQ b)(g:Th b n key d m 0):okQ d:=by
 rcases g with⟨-,-,-,h0⟩ | ⟨hk,b1,m1,k1,hg,⟨h0,-,-,rfl⟩ | ⟨rfl,rfl,U,hB,rfl⟩⟩
 ·exact absurd h0 (by decide)
 ·exact absurd rfl h0
 ·obtain⟨⟨h1,h2,h3,h4,h5,h6,h7⟩,a2,a3,a4,a5,a6⟩:=M5 h hg
  refine⟨h1,h2,h3,h4,H7 hB,h6,?_⟩
  cases hB with
  | yes=>
       intro u hu;rcases List.mem_append.1 hu with hu | hu;exact h7 u hu;obtain rfl:u=_:=by simpa using hu
       show m≤b1.last;omega
theorem Qt{b d:Bkt}{id:Nat}{p:Prt}{t:Nat}(h:okQ b)(g:Tf b id p d t 0):okQ d:=by
 obtain⟨U,hL,rfl⟩:=g
 obtain⟨h1,h2,h3,h4,h5,h6,h7⟩:=h
 refine⟨h1,h2,h3,h4,Do hL,h6,?_⟩
 cases hL with
 | yes i hi=>
   intro u hu
   obtain⟨j,hj,rfl⟩:=List.getElem_of_mem hu
   rw [List.getElem_set]
   split
   ·show b.U[i].id≤b.last;exact h7 _ (List.getElem_mem hi)
   ·exact h7 _ (List.getElem_mem _)
theorem Gs{b:Bkt}{id:Nat}{U:List Upl}(h:okQ b)(g:AbortC b.U id U 0):okQ {b with U:=U}:=by
 obtain⟨h1,h2,h3,h4,h5,h6,h7⟩:=h
 cases g with
 | yes=>exact⟨h1,h2,h3,h4,Sy h5,h6,fun u hu=>h7 u (List.mem_filter.1 hu).1⟩
theorem Q2{b d:Bkt}{id:Nat}(h:okQ b)(g:Ti b id d 0):okQ d:=by
 obtain⟨U,hA,rfl⟩:=g
 exact Gs h hA
theorem F6{l:List Upl}{id:Nat}{u:Upl}{U:List Upl}{g:Nat}(h:FindC l id u 0)(k:AbortC l id U g):g=0:=by
 cases h with
 | yes i hi h1 h2=>
   cases k with
   | arg h=>exact absurd h1 h
   | none _ h=>exact absurd h2 (h i hi)
   | yes=>rfl
theorem Qr{b d:Bkt}{n m id:Nat}{P:List Pce}{tm:Int}{s:ByteArray}(h:okQ b)(hn:n≤EE b)(g:Te b n id P tm d m s 0):okQ d:=by
 obtain⟨u,e,hF,⟨h0,-,-,-,rfl⟩ | ⟨rfl,S,T,f,hW,⟨h0,-,-,-,rfl⟩ | ⟨rfl,rfl,U,g,hA,hP⟩⟩⟩:=g
 ·exact absurd rfl h0
 ·exact absurd rfl h0
 ·obtain rfl:=F6 hF hA
  exact Ll (Gs h hA) hn hP
theorem Bk{b d:Bkt}{R:Bkt→Nat→Nat→ByteArray→Nat→Prop}{n t:Nat}{s:ByteArray}{k:Nat}(hR:∀ d n t s,okQ b→R d n t s 0→okQ d)(h:okB b)(g:BC b R d n t s k):okB d:=by
 rcases g with⟨-,⟨rfl,-⟩,-⟩ | ⟨-,d1,n1,t1,s1,k1,hr,⟨-,⟨rfl,-⟩,-⟩ | ⟨-,-,⟨rfl,-⟩,-⟩ | ⟨rfl,h0,⟨rfl,-⟩,-⟩⟩
 ·exact h
 ·exact h
 ·exact h
 ·exact Dl.2 ⟨hR _ _ _ _ (Dl.1 h).1 hr,h0⟩
theorem Ek{b:Bkt}{key data:ByteArray}{tm:Int}: ∀ d n t s,okQ b→ID b key data tm d n t s 0→okQ d:=fun d n t s h g=>Ll h (Nat.zero_le _) g.1
theorem I1{b:Bkt}{key:ByteArray}{tm:Int}: ∀ d n t s,okQ b→N2 b key tm d n t s 0→okQ d:=fun d n t s h g=>Qx h (Nat.zero_le _) g.1
theorem Gb{b:Bkt}{key:ByteArray}{id:Nat}: ∀ d n t s,okQ b→FP b key id d n t s 0→okQ d:=fun d n t s h g=>OS h g.1
theorem GB{b:Bkt}{st:Int}: ∀ d n t s,okQ b→FO b st d n t s 0→okQ d:=fun d n t s h g=>OI h g.1
theorem JA{b:Bkt}{key:ByteArray}: ∀ d n t s,okQ b→N7 b key d n t s 0→okQ d:=fun d n t s h g=>Qz h g.1
theorem It{b:Bkt}{id:Nat}{p:Prt}: ∀ d n t s,okQ b→N1 b id p d n t s 0→okQ d:=fun d n t s h g=>Qt h g.1
theorem Ny{b:Bkt}{id:Nat}: ∀ d n t s,okQ b→Lc b id d n t s 0→okQ d:=fun d n t s h g=>Q2 h g.1
theorem IL{b:Bkt}{id:Nat}{P:List Pce}{tm:Int}: ∀ d n t s,okQ b→Nz b id P tm d n t s 0→okQ d:=fun d n t s h g=>Qr h (Nat.zero_le _) g.1
theorem BV{b:Bkt}(h:okQ b):(By b.L∧∀ e∈b.L,e.L.length≤900)∧smL b.U:=⟨Hk h.2.2.2.1,JM h.2.2.2.2.1⟩
end
section
open Go.ChangeShapes Go.WideShapes Go.ChangeAt Go.RowKit
namespace awk9
def OG:ByteArray:=⟨#[98,111,120]⟩
def yA:ByteArray:=⟨#[97]⟩
def yK:ByteArray:=⟨#[107]⟩
def yX:ByteArray:=⟨#[120]⟩
def yY:ByteArray:=⟨#[121]⟩
def yW:ByteArray:=⟨#[119,104,111,108,101]⟩
def vX:Ver:=⟨0,yX,false,0⟩
def vY:Ver:=⟨0,yY,false,0⟩
def vW:Ver:=⟨2,yW,false,2⟩
def vM:Ver:=Fa 1 1
def pW:Prt:=⟨1,yW⟩
def qW:Nat:=crc (bl yW)
def b0:Bkt:=⟨OG,0,[],[],0⟩
def b1:Bkt:=⟨OG,0,[⟨yA,[vX]⟩],[],0⟩
def b2:Bkt:=⟨OG,0,[⟨yA,[vY]⟩],[],0⟩
def b3:Bkt:=⟨OG,1,[⟨yA,[vY]⟩],[],0⟩
def bC:Bkt:=⟨OG,1,[⟨yA,[vM,vY]⟩],[],1⟩
def bD:Bkt:=⟨OG,1,[⟨yA,[vY]⟩],[],1⟩
def u1:Bkt:=⟨OG,1,[⟨yA,[vY]⟩],[⟨1,yK,[]⟩],1⟩
def u2:Bkt:=⟨OG,1,[⟨yA,[vY]⟩],[⟨1,yK,[pW]⟩],1⟩
def u3:Bkt:=⟨OG,1,[⟨yA,[vY]⟩,⟨yK,[vW]⟩],[],2⟩
theorem JP:okI []:=Et.2 ⟨by simp,List.Pairwise.nil,by simp⟩
theorem RY:okB b0:=⟨by decide,by decide,by decide,JP,As.2 ⟨by simp [b0],by simp [b0],by simp [b0]⟩,⟨by simp [B8,b0],by simp [Fo,b0]⟩,by decide⟩
theorem Ct{l:List Ent}{key:ByteArray}{c:List Ver}{L:List Ent}(h:okI l)(hk:BD 1 60 ko key=true)(hc:okP c)(e:B6 l key c=L)(hL:L.length≤60):OE l key c L 0:=.inr ⟨⟨h,hk,hc⟩,.inr ⟨by rw [e];exact hL,e.symm,rfl⟩⟩
theorem ka:BD 1 60 ko yA=true:=by decide
theorem kk:BD 1 60 ko yK=true:=by decide
theorem Tc:ltB yA yA=false:=Br _
theorem Tq:ltB yA yK=true:=by decide +kernel
theorem l_ka:ltB yK yA=false:=by decide +kernel
theorem p1:PutC [] 0 vX [vX] 0:=.over Ij (.inl rfl) (by decide) (by simp) (by decide)
theorem f1:BC b0 (ID b0 yA yX 0) b1 0 0 noS 0:=.inr ⟨RY,b1,0,0,noS,0,⟨⟨b0,0,0,.inr (.inl ⟨ka,by decide,rfl,rfl,rfl⟩),.inr ⟨rfl,rfl,[vX],0,p1,.inr ⟨rfl,[⟨yA,[vX]⟩],0,Ct JP ka (Cg p1) (by simp [B6,b0]) (by decide),rfl,rfl⟩⟩⟩,rfl,rfl⟩,.inr (.inr ⟨rfl,by decide,⟨rfl,rfl,rfl,rfl⟩,rfl⟩)⟩
theorem Sk:okB b1:=Bk Ek RY f1
theorem p2:PutC [vX] 0 vY [vY] 0:=.over (Cg p1) (.inl rfl) (by decide) (by intro y m h;injection h with h1 h2;subst h1;decide) (by decide)
theorem f2:BC b1 (ID b1 yA yY 0) b2 0 0 noS 0:=.inr ⟨Sk,b2,0,0,noS,0,⟨⟨b1,0,0,.inr (.inl ⟨ka,by decide,rfl,rfl,rfl⟩),.inr ⟨rfl,rfl,[vY],0,p2,.inr ⟨rfl,[⟨yA,[vY]⟩],0,Ct Sk.2.2.2.1 ka (Cg p2) (by simp [B6,b1,Tc]) (by decide),rfl,rfl⟩⟩⟩,rfl,rfl⟩,.inr (.inr ⟨rfl,by decide,⟨rfl,rfl,rfl,rfl⟩,rfl⟩)⟩
theorem N9:okB b2:=Bk Ek Sk f2
theorem p3:J1 [vY] 0 0 0 [] 0:=.inl ⟨rfl,.yes (Cg p2) ⟨0,by decide,rfl⟩⟩
theorem f3:BC b2 (N2 b2 yA 0) b0 0 0 noS 0:=.inr ⟨N9,b0,0,0,noS,0,⟨⟨b2,0,0,.inr (.inl ⟨ka,by decide,rfl,rfl,rfl⟩),.inr ⟨rfl,rfl,[],0,p3,.inr ⟨rfl,[],0,Ct N9.2.2.2.1 ka Ij (by simp [B6,b2,Tc]) (by decide),rfl,rfl⟩⟩⟩,rfl,rfl⟩,.inr (.inr ⟨rfl,by decide,⟨rfl,rfl,rfl,rfl⟩,rfl⟩)⟩
theorem f4:BC b2 (FO b2 1) b3 0 0 noS 0:=.inr ⟨N9,b3,0,0,noS,0,⟨.inr (.inr ⟨by decide,by decide,rfl,rfl⟩),rfl,rfl,rfl⟩,.inr (.inr ⟨rfl,by decide,⟨rfl,rfl,rfl,rfl⟩,rfl⟩)⟩
theorem Ld:okB b3:=Bk GB N9 f4
theorem p5:J1 [vY] 1 1 1 [vM,vY] 0:=.inr ⟨by decide,.on (Cg p2) rfl (by decide) (by decide) (by intro y m h;injection h with h1 h2;subst h1;decide) (by decide) (by decide)⟩
theorem f5:BC b3 (N2 b3 yA 1) bC 1 0 noS 0:=.inr ⟨Ld,bC,1,0,noS,0,⟨⟨{b3 with last:=1},1,0,.inr (.inr ⟨ka,rfl,.inr ⟨by decide,rfl,rfl,rfl⟩⟩),.inr ⟨rfl,rfl,[vM,vY],0,p5,.inr ⟨rfl,[⟨yA,[vM,vY]⟩],0,Ct Ld.2.2.2.1 ka (I2 p5) (by simp [B6,b3,Tc]) (by decide),rfl,rfl⟩⟩⟩,rfl,rfl⟩,.inr (.inr ⟨rfl,by decide,⟨rfl,rfl,rfl,rfl⟩,rfl⟩)⟩
theorem N8:okB bC:=Bk I1 Ld f5
theorem p6:DropC [vM,vY] 1 [vY] 0:=by
 have h:DropC [vM,vY] 1 (woV [vM,vY] 1) 0:=.yes (I2 p5) ⟨0,by decide,rfl⟩
 have e:woV [vM,vY] 1=[vY]:=by simp [woV,vM,vY,Fa]
 rwa [e] at h
theorem f6:BC bC (FP bC yA 1) bD 0 0 noS 0:=.inr ⟨N8,bD,0,0,noS,0,⟨.inr ⟨ka,[vY],0,p6,.inr ⟨rfl,[⟨yA,[vY]⟩],0,Ct N8.2.2.2.1 ka (Gc p6) (by simp [B6,bC,Tc]) (by decide),rfl,rfl⟩⟩,rfl,rfl,rfl⟩,.inr (.inr ⟨rfl,by decide,⟨rfl,rfl,rfl,rfl⟩,rfl⟩)⟩
theorem Tb:okB bD:=Bk Gb N8 f6
theorem p7:BeginC [] 1 yK [⟨1,yK,[]⟩] 0:=.yes Ld.2.2.2.2.1 (by decide) (by simp) (by decide)
theorem f7:BC b3 (N7 b3 yK) u1 1 0 noS 0:=.inr ⟨Ld,u1,1,0,noS,0,⟨.inr ⟨kk,{b3 with last:=1},1,0,.inr ⟨by decide,rfl,rfl,rfl⟩,.inr ⟨rfl,rfl,[⟨1,yK,[]⟩],p7,rfl⟩⟩,rfl,rfl⟩,.inr (.inr ⟨rfl,by decide,⟨rfl,rfl,rfl,rfl⟩,rfl⟩)⟩
theorem Kb:okB u1:=Bk JA Ld f7
theorem p8:LayC [⟨1,yK,[]⟩] 1 pW [⟨1,yK,[pW]⟩] qW 0:=.yes 0 (by decide) Kb.2.2.2.2.1 (by decide) rfl (by intro j hj;omega) (by decide)
theorem f8:BC u1 (N1 u1 1 pW) u2 0 qW noS 0:=.inr ⟨Kb,u2,0,qW,noS,0,⟨⟨[⟨1,yK,[pW]⟩],p8,rfl⟩,rfl,rfl⟩,.inr (.inr ⟨rfl,by decide,⟨rfl,rfl,rfl,rfl⟩,rfl⟩)⟩
theorem Ii:okB u2:=Bk It Kb f8
theorem Ra:Ab [⟨1,yK,[pW]⟩]:=Ii.2.2.2.2.1
theorem fd1:FindC [⟨1,yK,[pW]⟩] 1 ⟨1,yK,[pW]⟩ 0:=.yes 0 (by decide) Ra rfl (by intro j hj;omega)
theorem pc1:PartC [pW] 1 pW true:=.yes 0 (by decide) rfl (by intro j hj;omega)
theorem wh1:WholeC ⟨1,yK,[pW]⟩ [⟨1,qW⟩] (bl yW) (DA [qW]) 0:=by
 have h1:DF ⟨1,yK,[pW]⟩:=(As.1 Ra).2.1 _ (by simp)
 have hr:DN [(⟨1,qW⟩:Pce)]:=fun i hi=>by simp at hi
 have hb:[(⟨1,qW⟩:Pce)].any (lackB [pW])=false:=by
  have h:=Cm (x:=⟨1,qW⟩) pc1
  simp only [List.any_cons,List.any_nil,Bool.or_false]
  rw [h]
  simp [qW,pW]
 have hc:catB [pW] [⟨1,qW⟩]=bl yW:=by
  unfold catB
  simp only [List.flatMap_cons,List.flatMap_nil,List.append_nil]
  rw [CW pc1];rfl
 have:=WholeC.yes (u:=⟨1,yK,[pW]⟩) (l:=[⟨1,qW⟩]) h1 (by simp) hr hb (by simp) (by rw [hc];decide)
 rw [hc] at this
 exact this
theorem ab1:AbortC [⟨1,yK,[pW]⟩] 1 [] 0:=by
 have h:AbortC [⟨1,yK,[pW]⟩] 1 (rmU [⟨1,yK,[pW]⟩] 1) 0:=.yes 0 (by decide) Ra rfl (by intro j hj;omega)
 have e:rmU [⟨1,yK,[pW]⟩] 1=[]:=by simp [rmU]
 rwa [e] at h
theorem Tp:yA≠yK:=Fs Tq
theorem g0:BY u2.L yK=[]:=by simp [BY,Cb,u2,Tp]
theorem p9:PutC [] 1 vW [vW] 0:=.on Ij rfl (by decide) (by decide) (by simp) (by decide) (by decide)
theorem f9:BC u2 (Nz u2 1 [⟨1,qW⟩] 2) u3 2 0 (mk (DA [qW])) 0:=.inr ⟨Ii,u3,2,0,mk (DA [qW]),0,⟨⟨⟨1,yK,[pW]⟩,0,fd1,.inr ⟨rfl,bl yW,DA [qW],0,wh1,.inr ⟨rfl,rfl,[],0,ab1,
 ⟨{{u2 with U:=[]} with last:=2},2,0,.inr (.inr ⟨kk,rfl,.inr ⟨by decide,rfl,rfl,rfl⟩⟩),.inr ⟨rfl,rfl,[vW],0,(by show PutC (BY u2.L yK) 1 vW [vW] 0;rw [g0];exact p9),.inr ⟨rfl,[⟨yA,[vY]⟩,⟨yK,[vW]⟩],0,Ct Ii.2.2.2.1 kk (Cg p9) (by simp [B6,u2,Tq,l_ka]) (by decide),rfl,rfl⟩⟩⟩⟩⟩⟩,rfl⟩,.inr (.inr ⟨rfl,by decide,⟨rfl,rfl,rfl,rfl⟩,rfl⟩)⟩
theorem PO:okB u3:=Bk IL Ii f9
theorem g1:(BY bC.L yA).head?=some vM:=by simp [BY,Cb,bC]
theorem g2:(BY bD.L yA).head?=some vY:=by simp [BY,Cb,bD]
theorem g3:(BY u3.L yK).head?=some vW:=by
 have h:yA≠yK:=Fs Tq
 simp [BY,Cb,u3,h]
end awk9
end
section
open Go.ChangeShapes Go.WideShapes Go.ChangeAt Go.RowKit Go.Shelf
theorem Sa{w:World}{p:Nat}{b:Bkt}{A1 A2:Option Addr}{c1 c2 n t:Nat}{s:ByteArray}(h:Bx w p 109 (wcl b A1 c1 A2 c2 n t s))(x:Nat):
  Bx (w.setCell ⟨p,4,none⟩ (.int .u64 (x:Nat))) p 109 (wcl {b with last:=x} A1 c1 A2 c2 n t s):=h.set 4 _
theorem TU{w:World}{p:Nat}{b:Bkt}{A1 A2:Option Addr}{c1 c2 n t:Nat}{s:ByteArray}(h:Bx w p 109 (wcl b A1 c1 A2 c2 n t s))(x:Nat):
  Bx (w.setCell ⟨p,5,none⟩ (.int .u64 (x:Nat))) p 109 (wcl b A1 c1 A2 c2 x t s):=h.set 5 _
theorem TS{w:World}{p:Nat}{b:Bkt}{A1 A2:Option Addr}{c1 c2 n t:Nat}{s:ByteArray}(h:Bx w p 109 (wcl b A1 c1 A2 c2 n t s))(x:Nat):
  Bx (w.setCell ⟨p,6,none⟩ (.int .u32 (x:Nat))) p 109 (wcl b A1 c1 A2 c2 n x s):=h.set 6 _
theorem SZ{w:World}{p:Nat}{b:Bkt}{A1 A2:Option Addr}{c1 c2 n t:Nat}{s:ByteArray}(h:Bx w p 109 (wcl b A1 c1 A2 c2 n t s))(x:ByteArray):
  Bx (w.setCell ⟨p,7,none⟩ (.string x)) p 109 (wcl b A1 c1 A2 c2 n t x):=h.set 7 _
theorem Tt{w:World}{p:Nat}{b:Bkt}{A1 A2:Option Addr}{c1 c2 n t:Nat}{s:ByteArray}(h:Bx w p 109 (wcl b A1 c1 A2 c2 n t s))(x:Int):
  Bx (w.setCell ⟨p,1,none⟩ (.int .i64 x)) p 109 (wcl {b with st:=x} A1 c1 A2 c2 n t s):=h.set 1 _
theorem bx_L{w:World}{p:Nat}{b:Bkt}{A1 A2:Option Addr}{c1 c2 n t:Nat}{s:ByteArray}(h:Bx w p 109 (wcl b A1 c1 A2 c2 n t s))(L:List Ent)(A:Option Addr)(c:Nat):
  Bx (w.setCell ⟨p,2,none⟩ (.slice A L.length c)) p 109 (wcl {b with L:=L} A c A2 c2 n t s):=h.set 2 _
theorem Td{w:World}{p:Nat}{b:Bkt}{A1 A2:Option Addr}{c1 c2 n t:Nat}{s:ByteArray}(h:Bx w p 109 (wcl b A1 c1 A2 c2 n t s))(U:List Upl)(A:Option Addr)(c:Nat):
  Bx (w.setCell ⟨p,3,none⟩ (.slice A U.length c)) p 109 (wcl {b with U:=U} A1 c1 A c n t s):=h.set 3 _
theorem Je(w:World)(p:Nat)(b:Bkt)(n t:Nat)(s:ByteArray)(d:Bkt)(m k:Nat)(hg:Lb b n d m k)(h:Wk w p b n t s):
  Calls Tryz.prog 111 #[.pointer (some ⟨p,0,none⟩)] w fun e w'=>e=.returned (.int .i64 (k:Nat))∧Wk w' p d m t s∧Kp p w w':=by
 obtain⟨A1,c1,A2,c2,hb,hv⟩:=h
 obtain⟨⟨e0,e1,e2,e3,e4,e5,e6,e7⟩,f0,f1,f2,f3,f4,f5,f6,f7⟩:=AO hb
 have HB:=AC hb
 have HV:=AC hv
 have cm:=AC (Ap hb)
 clear hb hv e0 e1 e2 e3 e6 e7 f0 f1 f2 f3 f6 f7
 rcases hg with⟨h1,rfl,rfl,rfl⟩ | ⟨h1,rfl,rfl,rfl⟩
 ·have h1':(281474976710655:Int)≤((d.last:Nat):Int):=by omega
  go_enter Tryz.func111,Tryz.ntmps111
  go_wp2
  go_ret
  exact⟨rfl,⟨A1,c1,A2,c2,HB.out,HV.out⟩,Kp.of (Q.refl _)⟩
 ·have h1':¬ ((281474976710655:Int)≤((b.last:Nat):Int)):=by omega
  go_enter Tryz.func111,Tryz.ntmps111
  go_wp2
  go_ret
  have g:=((Kp.of (p:=p) (Q.refl w)).set 4 (.int .u64 (b.last+1))).set 5 (.int .u64 (b.last+1))
  exact⟨rfl,⟨A1,c1,A2,c2,TU (Sa HB.out (b.last+1)) (b.last+1),(HV.out).kp cm.out g⟩,g⟩
end
section
open Go.ChangeShapes Go.WideShapes Go.ChangeAt Go.RowKit Go.Shelf
theorem Co(w:World)(p:Nat)(b:Bkt)(n t:Nat)(s key:ByteArray)(d:Bkt)(m k:Nat)(hg:Si b n key d m k)(hk:key.size≤1000)(h:Wk w p b n t s):
  Calls Tryz.prog 117 #[.pointer (some ⟨p,0,none⟩),.string key] w fun e w'=>e=.returned (.int .i64 (k:Nat))∧Wk w' p d m t s∧Kp p w w':=by
 have H:=AC h
 have KY:=AC fun d=>Cn key d hk
 have E1:Hid (∀ d,Q w d→d.cell? ⟨p,1,none⟩=some (.int .i64 b.st)):=AC fun d q=>by
  obtain⟨A1,c1,A2,c2,hb,-⟩:=H.out.on q
  exact(AO hb).1.2.1
 clear h
 rcases hg with⟨h0,rfl,rfl,rfl⟩ | ⟨h0,h1,rfl,rfl,rfl⟩ | ⟨h0,h1,hg⟩
 ·rw [h0] at KY
  clear h0
  go_enter Tryz.func117,Tryz.ntmps117
  go_wp2_with fail
  refine(KY.out _).mono ?_
  rintro e w1 ⟨rfl,q1⟩
  go_wp2
  go_ret
  exact⟨rfl,H.out.on q1,Kp.of q1⟩
 ·rw [h0] at KY
  have h2:(d.st != 1)=true:=by simpa using h1
  clear h0
  go_enter Tryz.func117,Tryz.ntmps117
  go_wp2_with fail
  refine(KY.out _).mono ?_
  rintro e w1 ⟨rfl,q1⟩
  have e1:=E1.out _ q1
  go_wp2
  go_ret
  exact⟨rfl,H.out.on q1,Kp.of q1⟩
 ·rw [h0] at KY
  rw [h1] at E1
  have G:=AC fun w1 (q:Q w w1)=>Je w1 p b n t s d m k hg (H.out.on q)
  clear h0 hg h1
  go_enter Tryz.func117,Tryz.ntmps117
  go_wp2_with fail
  refine(KY.out _).mono ?_
  rintro e w1 ⟨rfl,q1⟩
  have e1:=E1.out _ q1
  go_wp2_with fail
  refine(G.out _ q1).mono ?_
  rintro e w2 ⟨rfl,k2,g2⟩
  go_wp2
  go_ret
  exact⟨rfl,k2,(Kp.of q1).trans g2⟩
theorem Ew(w:World)(s:Int):
  Calls Tryz.prog 45 #[.int .i64 s] w fun e w'=>e=.returned (.bool (Hp s))∧w'=w:=by
 have hs:(s=0∧Hp s=true)∨(s=1∧Hp s=true)∨(s=2∧Hp s=true)∨((s==0)=false∧(s==1)=false∧(s==2)=false∧Hp s=false):=by
  by_cases h0:s=0
  ·subst h0;exact .inl ⟨rfl,rfl⟩
  ·by_cases h1:s=1
   ·subst h1;exact .inr (.inl ⟨rfl,rfl⟩)
   ·by_cases h2:s=2
    ·subst h2;exact .inr (.inr (.inl ⟨rfl,rfl⟩))
    ·refine .inr (.inr (.inr ⟨by simpa using h0,by simpa using h1,by simpa using h2,?_⟩))
     simp only [Hp,Bool.and_eq_false_iff,decide_eq_false_iff_not]
     omega
 rcases hs with⟨rfl,h⟩ | ⟨rfl,h⟩ | ⟨rfl,h⟩ | ⟨h0,h1,h2,h⟩
 ·rw [h];go_enter Tryz.func45,Tryz.ntmps45
  go_wp2
  go_ret
  exact⟨rfl,rfl⟩
 ·rw [h];go_enter Tryz.func45,Tryz.ntmps45
  go_wp2
  go_ret
  exact⟨rfl,rfl⟩
 ·rw [h];go_enter Tryz.func45,Tryz.ntmps45
  go_wp2
  go_ret
  exact⟨rfl,rfl⟩
 ·rw [h];clear h;go_enter Tryz.func45,Tryz.ntmps45
  go_wp2
  go_ret
  exact⟨rfl,rfl⟩
theorem Ob(w:World)(p:Nat)(b:Bkt)(n t:Nat)(s:ByteArray)(z:Int)(d:Bkt)(k:Nat)(hg:Qf b z d k)(h:Wk w p b n t s):
  Calls Tryz.prog 56 #[.pointer (some ⟨p,0,none⟩),.int .i64 z] w fun e w'=>e=.returned (.int .i64 (k:Nat))∧Wk w' p d n t s∧Kp p w w':=by
 obtain⟨A1,c1,A2,c2,hb,hv⟩:=h
 obtain⟨⟨-,e1,-⟩,-,f1,-⟩:=AO hb
 have HB:=AC hb
 have HV:=AC hv
 have cm:=AC (Ap hb)
 have IS:=AC fun w=>Ew w z
 clear hb hv
 rcases hg with⟨h0,rfl,rfl⟩ | ⟨h0,rfl,h1,rfl,rfl⟩ | ⟨h0,h1,rfl,rfl⟩
 ·rw [h0] at IS;clear h0
  go_enter Tryz.func56,Tryz.ntmps56
  go_wp2_with fail
  refine(IS.out _).mono ?_
  rintro e w1 ⟨rfl,rfl⟩
  go_wp2
  go_ret
  exact⟨rfl,⟨A1,c1,A2,c2,HB.out,HV.out⟩,Kp.of (Q.refl _)⟩
 ·rw [h0] at IS;clear h0
  have h2:(d.st != 0)=true:=by simpa using h1
  go_enter Tryz.func56,Tryz.ntmps56
  go_wp2_with fail
  refine(IS.out _).mono ?_
  rintro e w1 ⟨rfl,rfl⟩
  go_wp2
  go_ret
  exact⟨rfl,⟨A1,c1,A2,c2,HB.out,HV.out⟩,Kp.of (Q.refl _)⟩
 ·rw [h0] at IS;clear h0
  have g:=(Kp.of (p:=p) (Q.refl w)).set 1 (.int .i64 z)
  have HG:=AC g
  have HE:Hid (Wk (w.setCell ⟨p,1,none⟩ (.int .i64 z)) p {b with st:=z} n t s):=AC ⟨A1,c1,A2,c2,Tt HB.out z,(HV.out).kp cm.out g⟩
  clear g
  by_cases hz:z=0
  ·have h2:=h1 hz
   subst hz
   rw [h2] at e1
   clear h1
   go_enter Tryz.func56,Tryz.ntmps56
   go_wp2_with fail
   refine(IS.out _).mono ?_
   rintro e w1 ⟨rfl,rfl⟩
   go_wp2
   go_ret
   exact⟨rfl,HE.out,HG.out⟩
  ·have h2:(z==0)=false:=by simpa using hz
   clear h1
   go_enter Tryz.func56,Tryz.ntmps56
   go_wp2_with fail
   refine(IS.out _).mono ?_
   rintro e w1 ⟨rfl,rfl⟩
   go_wp2
   go_ret
   exact⟨rfl,HE.out,HG.out⟩
end
section
open Go.ChangeShapes Go.WideShapes Go.ChangeAt Go.RowKit Go.Shelf
theorem GI(g:Nat)(caps:Array Value)(eg:∀ args w,(callFunc g args).run Tryz.prog w=.ok (.enter g args) w)(w:World)(p:Nat)(b:Bkt)(n t:Nat)(s key:ByteArray)(l:List Ver)(e:Nat)(d:Bkt)(k:Nat)
  (hc:(e≠0∧d=b∧k=e)∨(e=0∧∃ L j,OE b.L key l L j∧d = {b with L:=L}∧k=j))
  (HM:∀ w1 u,Q w w1→Vers w1 w1.heap.size u (BY b.L key)→Calls Tryz.prog g (#[u]++caps) w1 fun x w'=>∃ v',x=.returned (.tuple #[v',.int .i64 (e:Nat)])∧OwnV w1.heap.size w' v' l∧Q w1 w')
  (hs:By b.L) (hk:key.size≤1000) (hl:l.length≤1000) (ho:∀ x∈l,okV x) (h:Wk w p b n t s) :
  Calls Tryz.prog 118 #[.pointer (some ⟨p,0,none⟩),.string key,.func (.func g) #[] caps] w fun e w'=>e=.returned (.int .i64 (k:Nat))∧Wk w' p d n t s∧Kp p w w':=by
 obtain⟨A1,c1,A2,c2,hb,hv⟩:=h
 obtain⟨⟨-,-,e2,-⟩,-,-,f2,-⟩:=AO hb
 have HB:=AC hb
 have HV:=AC hv
 have HO:=AC ho
 have HG:Hid (∀ x∈BY b.L key,okV x):=AC fun x hx=>by
  rcases Da b.L key with h | ⟨y,hy,h⟩
  ·rw [h] at hx;simp at hx
  ·rw [h] at hx;exact hv.1.okVs y hy x hx
 have cm:=AC (Ap hb)
 have GE:=AC (Jg b.L key (.slice A1 b.L.length c1) w hs hv.1)
 have HMM:=AC HM
 have E2:Hid (∀ d,Q w d→d.cell? ⟨p,2,none⟩=some (.slice A1 b.L.length c1)∧d.frozen? ⟨p,2,none⟩=false):=AC fun d q=>⟨(AO (HB.out.on q)).1.2.2.1,(AO (HB.out.on q)).2.2.2.1⟩
 clear hb hv HM ho
 rcases hc with⟨h1,rfl,rfl⟩ | ⟨rfl,L,j,hP,rfl,rfl⟩
 ·have h2:((k:Int) != 0)=true:=by simpa using h1
  clear h1
  go_enter Tryz.func118,Tryz.ntmps118
  go_wp2_with fail
  refine(GE.out).mono ?_
  rintro e w1 ⟨v1,rfl,o1,q1⟩
  have hv1:Vers w1 w1.heap.size v1 (BY d.L key):=o1.vers HG.out
  have CM:=AC (HMM.out w1 v1 q1 hv1)
  clear hv1
  obtain⟨A3,n3,c3,rfl⟩:∃ A n c,v1=.slice A n c:=by obtain⟨A,c,e⟩:=Ae o1;exact⟨A,_,c,e⟩
  clear o1
  go_wp2_with fail
  refine(CM.out).mono ?_
  rintro e w2 ⟨v2,rfl,o2,q2⟩
  obtain⟨A4,n4,c4,rfl⟩:∃ A n c,v2=.slice A n c:=by obtain⟨A,c,e⟩:=Ae o2;exact⟨A,_,c,e⟩
  clear o2
  go_wp2
  go_ret
  have q:=q1.trans q2
  exact⟨rfl,⟨A1,c1,A2,c2,HB.out.on q,HV.out.on q⟩,Kp.of q⟩
 ·have PE:Hid (∀ d u,Q w d→Vers d d.heap.size u l→Calls Tryz.prog 156 #[.slice A1 b.L.length c1,.string key,u] d fun e w'=>∃ v',e=.returned (.tuple #[v',.int .i64 (k:Nat)])∧Ents w' w'.heap.size v' L∧Q d w'):=AC fun d u q hu=>O7 b.L key l L k hP _ u d hs hk hl (HV.out.1.on q) hu
  clear hP
  go_enter Tryz.func118,Tryz.ntmps118
  go_wp2_with fail
  refine(GE.out).mono ?_
  rintro e w1 ⟨v1,rfl,o1,q1⟩
  have hv1:Vers w1 w1.heap.size v1 (BY b.L key):=o1.vers HG.out
  have CM:=AC (HMM.out w1 v1 q1 hv1)
  clear hv1
  obtain⟨A3,n3,c3,rfl⟩:∃ A n c,v1=.slice A n c:=by obtain⟨A,c,e⟩:=Ae o1;exact⟨A,_,c,e⟩
  clear o1
  go_wp2_with fail
  refine(CM.out).mono ?_
  rintro e w2 ⟨v2,rfl,o2,q2⟩
  have hv2:=o2.vers HO.out
  have CP:=AC (PE.out w2 v2 (q1.trans q2) hv2)
  clear hv2
  obtain⟨A4,n4,c4,rfl⟩:∃ A n c,v2=.slice A n c:=by obtain⟨A,c,e⟩:=Ae o2;exact⟨A,_,c,e⟩
  clear o2
  obtain⟨d2,-⟩:=E2.out _ (q1.trans q2)
  go_wp2_with fail
  refine(CP.out).mono ?_
  rintro e w3 ⟨v3,rfl,o3,q3⟩
  obtain⟨A5,c5,rfl⟩:=o3.form
  have O3:=AC o3
  clear o3
  have q:=(q1.trans q2).trans q3
  obtain⟨d3,g3⟩:=E2.out _ q
  go_wp2
  go_ret
  have g:=(Kp.of (p:=p) (Q.refl w3)).set 2 (.slice A5 L.length c5)
  have c3:=Ap (HB.out.on q)
  exact⟨rfl,⟨A5,c5,A2,c2,bx_L (HB.out.on q) L A5 c5,(O3.out.kp c3 g),(HV.out.2.on q).kp c3 g⟩,(Kp.of q).trans g⟩
end
end Go.Proofs.YtjjlbbfhmpbneaaGreat
