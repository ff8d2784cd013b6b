/-
  Acts, and what has been done, in boxes of their own. Plain facts of BucketTurns: puts, deletes and drops at two keys may be turned. Plain facts of what is done to a bucket: it stays one that may be, and numbers rise.
-/
import Derived.Test.YtjjlbbfhmpbneaaGreatLx
import Derived.Test.YtjjlbbfhmpbneaaGreatLz
import Derived.Test.YtjjlbbfhmpbneaaGreatLq
import Derived.Test.YtjjlbbfhmpbneaaGreatLg
import Derived.Test.YtjjlbbfhmpbneaaGreatLk
namespace Go.Proofs.YtjjlbbfhmpbneaaGreat
set_option maxHeartbeats 16000000
set_option maxRecDepth 100000
set_option linter.unusedVariables false
set_option linter.unusedSimpArgs false
section
open Go.ChangeShapes Go.WideShapes Go.ChangeAt Go.RowKit Go.Shelf
def BoxA(w:World)(P:Nat)(a:Actn):Prop:=∃ A c,Bx w P 29 (acl a (.slice A a.P.length c))∧Pces w w.heap.size (.slice A a.P.length c) a.P
theorem BoxA.on{w w':World}{P:Nat}{a:Actn}(h:BoxA w P a)(q:Q w w'):BoxA w' P a:=by
 obtain⟨A,c,h,k⟩:=h
 exact⟨A,c,h.on q,k.on q⟩
theorem BoxA.lt{w:World}{P:Nat}{a:Actn}(h:BoxA w P a):P<w.heap.size:=by
 obtain⟨A,c,h,k⟩:=h
 exact h.lt
theorem BoxA.calm{w:World}{P:Nat}{a:Actn}(h:BoxA w P a):Calm w P:=by
 obtain⟨A,c,h,k⟩:=h
 exact QY h
theorem BoxA.kp{w w':World}{P p:Nat}{a:Actn}(h:BoxA w P a)(c:Calm w p)(g:Kp p w w')(hn:P≠p):BoxA w' P a:=by
 obtain⟨A,c1,h,k⟩:=h
 exact⟨A,c1,g.bx h hn,k.kp c g⟩
theorem BoxA.store{w:World}{P:Nat}{a d:Actn}{A:Option Addr}{c:Nat}(h:BoxA w P a)(k:Pces w w.heap.size (.slice A d.P.length c) d.P):
  BoxA (((((((w.setCell ⟨P,0,none⟩ (.int .u8 (d.kind:Nat))).setCell ⟨P,1,none⟩ (.string d.key)).setCell ⟨P,2,none⟩ (.string d.data)).setCell ⟨P,3,none⟩ (.int .u64 (d.id:Nat))).setCell ⟨P,4,none⟩ (.int .i64 d.n)).setCell ⟨P,5,none⟩ (.int .i64 d.tm)).setCell ⟨P,6,none⟩ (.slice A d.P.length c)) P d∧
  Kp P w (((((((w.setCell ⟨P,0,none⟩ (.int .u8 (d.kind:Nat))).setCell ⟨P,1,none⟩ (.string d.key)).setCell ⟨P,2,none⟩ (.string d.data)).setCell ⟨P,3,none⟩ (.int .u64 (d.id:Nat))).setCell ⟨P,4,none⟩ (.int .i64 d.n)).setCell ⟨P,5,none⟩ (.int .i64 d.tm)).setCell ⟨P,6,none⟩ (.slice A d.P.length c)):=by
 have cm:=h.calm
 obtain⟨A0,c0,h,-⟩:=h
 obtain⟨h1,g⟩:=Sh (y0:=.int .u8 (d.kind:Nat)) (y1:=.string d.key) (y2:=.string d.data) (y3:=.int .u64 (d.id:Nat)) (y4:=.int .i64 d.n) (y5:=.int .i64 d.tm) (y6:=.slice A d.P.length c) h
 exact⟨⟨A,c,h1,k.kp cm g⟩,g⟩
theorem BoxA.new{w:World}{d:Actn}{A:Option Addr}{c:Nat}(k:Pces w w.heap.size (.slice A d.P.length c) d.P):
  BoxA (w.alloc (.cells (acl d (.slice A d.P.length c)) 29)) w.heap.size d:=
 ⟨A,c,Bx.new _ _ _,k.on ((Q.refl w).alloc _)⟩
def BoxD(w:World)(P:Nat)(d:Bkt)(i:Nat)(s:ByteArray)(k:Nat):Prop:=∃ A c A' c',Bx w P 34 (BL d (.slice A d.L.length c) (.slice A' d.U.length c') i s k)∧BktV w d (.slice A d.L.length c) (.slice A' d.U.length c')
theorem BoxD.on{w w':World}{P:Nat}{d:Bkt}{i:Nat}{s:ByteArray}{k:Nat}(h:BoxD w P d i s k)(q:Q w w'):BoxD w' P d i s k:=by
 obtain⟨A,c,A',c',h,k⟩:=h
 exact⟨A,c,A',c',h.on q,k.on q⟩
theorem BoxD.lt{w:World}{P:Nat}{d:Bkt}{i:Nat}{s:ByteArray}{k:Nat}(h:BoxD w P d i s k):P<w.heap.size:=by
 obtain⟨A,c,A',c',h,k⟩:=h
 exact h.lt
theorem BoxD.kp{w w':World}{P p:Nat}{d:Bkt}{i:Nat}{s:ByteArray}{k:Nat}(h:BoxD w P d i s k)(c:Calm w p)(g:Kp p w w')(hn:P≠p):BoxD w' P d i s k:=by
 obtain⟨A,c1,A',c',h,k⟩:=h
 exact⟨A,c1,A',c',g.bx h hn,k.kp c g⟩
def Bb:Array Value:=#[.string ⟨#[]⟩,.int .i64 0,.slice none 0 0,.slice none 0 0,.int .u64 0,.int .u64 0,.string ⟨#[]⟩,.int .i64 0]
def NewD(w0 w:World)(p:Nat):Prop:=Bx w p 34 Bb∧w0.heap.size+2<p
theorem NewD.on{w0 w w':World}{p:Nat}(h:NewD w0 w p)(q:Q w w'):NewD w0 w' p:=⟨h.1.on q,h.2⟩
theorem NewD.calm{w0 w:World}{p:Nat}(h:NewD w0 w p):Calm w p:=⟨_,_,h.1,rfl⟩
theorem NewD.kp{w0 w w':World}{p r:Nat}(h:NewD w0 w p)(g:Kp r w w')(hn:p≠r):NewD w0 w' p:=⟨g.bx h.1 hn,h.2⟩
theorem NewD.store{w0 w:World}{P:Nat}{d:Bkt}{A A':Option Addr}{c c' i k:Nat}{s:ByteArray}(h:NewD w0 w P)(v:BktV w d (.slice A d.L.length c) (.slice A' d.U.length c')):
  BoxD ((((((((w.setCell ⟨P,0,none⟩ (.string d.name)).setCell ⟨P,1,none⟩ (.int .i64 d.st)).setCell ⟨P,2,none⟩ (.slice A d.L.length c)).setCell ⟨P,3,none⟩ (.slice A' d.U.length c')).setCell ⟨P,4,none⟩ (.int .u64 (d.last:Nat))).setCell ⟨P,5,none⟩ (.int .u64 (i:Nat))).setCell ⟨P,6,none⟩ (.string s)).setCell ⟨P,7,none⟩ (.int .i64 (k:Nat))) P d i s k∧
  Kp P w ((((((((w.setCell ⟨P,0,none⟩ (.string d.name)).setCell ⟨P,1,none⟩ (.int .i64 d.st)).setCell ⟨P,2,none⟩ (.slice A d.L.length c)).setCell ⟨P,3,none⟩ (.slice A' d.U.length c')).setCell ⟨P,4,none⟩ (.int .u64 (d.last:Nat))).setCell ⟨P,5,none⟩ (.int .u64 (i:Nat))).setCell ⟨P,6,none⟩ (.string s)).setCell ⟨P,7,none⟩ (.int .i64 (k:Nat))):=by
 obtain⟨h1,g⟩:=AQ (y0:=.string d.name) (y1:=.int .i64 d.st) (y2:=.slice A d.L.length c) (y3:=.slice A' d.U.length c') (y4:=.int .u64 (d.last:Nat)) (y5:=.int .u64 (i:Nat)) (y6:=.string s) (y7:=.int .i64 (k:Nat)) h.1
 exact⟨⟨A,c,A',c',h1,v.kp h.calm g⟩,g⟩
def In3(w0 w:World)(b:Bkt)(x y:Actn):Prop:=BoxB w w0.heap.size b∧BoxA w (w0.heap.size+1) x∧BoxA w (w0.heap.size+2) y∧Q w0 w
theorem In3.on{w0 w w':World}{b:Bkt}{x y:Actn}(h:In3 w0 w b x y)(q:Q w w'):In3 w0 w' b x y:=⟨h.1.on q,h.2.1.on q,h.2.2.1.on q,h.2.2.2.trans q⟩
theorem In3.kp{w0 w w':World}{b:Bkt}{x y:Actn}{p:Nat}(h:In3 w0 w b x y)(c:Calm w p)(g:Kp p w w')(hp:w0.heap.size+2<p):In3 w0 w' b x y:=
 ⟨h.1.kp c g (by omega),h.2.1.kp c g (by omega),h.2.2.1.kp c g (by omega),g.q h.2.2.2 (by omega)⟩
theorem In3.newD{w0 w:World}{b:Bkt}{x y:Actn}(h:In3 w0 w b x y):NewD w0 (w.alloc (.cells Bb 34)) w.heap.size:=⟨Bx.new _ _ _,h.2.2.1.lt⟩
def In5(w0 w:World)(b:Bkt)(x y:Actn)(p:Nat)(d:Bkt)(i:Nat)(s:ByteArray)(k:Nat)(p':Nat)(d':Bkt)(i':Nat)(s':ByteArray)(k':Nat):Prop:=
 In3 w0 w b x y∧BoxD w p d i s k∧BoxD w p' d' i' s' k'
theorem In5.on{w0 w w':World}{b:Bkt}{x y:Actn}{p:Nat}{d:Bkt}{i:Nat}{s:ByteArray}{k:Nat}{p':Nat}{d':Bkt}{i':Nat}{s':ByteArray}{k':Nat}(h:In5 w0 w b x y p d i s k p' d' i' s' k')(q:Q w w'):In5 w0 w' b x y p d i s k p' d' i' s' k':=
 ⟨h.1.on q,h.2.1.on q,h.2.2.on q⟩
theorem In5.kp{w0 w w':World}{b:Bkt}{x y:Actn}{p:Nat}{d:Bkt}{i:Nat}{s:ByteArray}{k:Nat}{p':Nat}{d':Bkt}{i':Nat}{s':ByteArray}{k':Nat}{r:Nat}(h:In5 w0 w b x y p d i s k p' d' i' s' k')(c:Calm w r)(g:Kp r w w')(hr:w0.heap.size+2<r)(h1:p≠r)(h2:p'≠r):In5 w0 w' b x y p d i s k p' d' i' s' k':=
 ⟨h.1.kp c g hr,h.2.1.kp c g h1,h.2.2.kp c g h2⟩
def S3(w0 w:World)(b:Bkt)(x y:Actn)(lv uv px py:Value):Prop:=
 Bx w w0.heap.size 26 (bcl b lv uv)∧Bx w (w0.heap.size+1) 29 (acl x px)∧Bx w (w0.heap.size+2) 29 (acl y py)∧Q w0 w
def C3(w:World)(b:Bkt)(x y:Actn)(lv uv px py:Value):Prop:=BktV w b lv uv∧Pces w w.heap.size px x.P∧Pces w w.heap.size py y.P
section
variable {w0 w w':World} {b d d':Bkt} {x y:Actn} {lv uv px py lv1 uv1 lv2 uv2:Value} {p r p' i i' k k':Nat} {s s':ByteArray}
theorem S3.on(h:S3 w0 w b x y lv uv px py)(q:Q w w'):S3 w0 w' b x y lv uv px py:=⟨h.1.on q,h.2.1.on q,h.2.2.1.on q,h.2.2.2.trans q⟩
theorem S3.kp(h:S3 w0 w b x y lv uv px py)(g:Kp r w w')(hp:w0.heap.size+2<r):S3 w0 w' b x y lv uv px py:=
 ⟨g.bx h.1 (by omega),g.bx h.2.1 (by omega),g.bx h.2.2.1 (by omega),g.q h.2.2.2 (by omega)⟩
theorem S3.newD(h:S3 w0 w b x y lv uv px py):NewD w0 (w.alloc (.cells Bb 34)) w.heap.size:=⟨Bx.new _ _ _,h.2.2.1.lt⟩
theorem C3.on(h:C3 w b x y lv uv px py)(q:Q w w'):C3 w' b x y lv uv px py:=⟨h.1.on q,h.2.1.on q,h.2.2.on q⟩
theorem C3.kp(h:C3 w b x y lv uv px py)(c:Calm w r)(g:Kp r w w'):C3 w' b x y lv uv px py:=⟨h.1.kp c g,h.2.1.kp c g,h.2.2.kp c g⟩
theorem In3.of{A A' Ax Ay:Option Addr}{c c' cx cy:Nat}(h:S3 w0 w b x y (.slice A b.L.length c) (.slice A' b.U.length c') (.slice Ax x.P.length cx) (.slice Ay y.P.length cy))(k:C3 w b x y (.slice A b.L.length c) (.slice A' b.U.length c') (.slice Ax x.P.length cx) (.slice Ay y.P.length cy)):In3 w0 w b x y:=
 ⟨⟨_,_,_,_,h.1,k.1⟩,⟨_,_,h.2.1,k.2.1⟩,⟨_,_,h.2.2.1,k.2.2⟩,h.2.2.2⟩
def S5(w0 w:World)(b:Bkt)(x y:Actn)(lv uv px py:Value)(p:Nat)(d:Bkt)(lv1 uv1:Value)(i:Nat)(s:ByteArray)(k:Nat)(p':Nat)(d':Bkt)(lv2 uv2:Value)(i':Nat)(s':ByteArray)(k':Nat):Prop:=
 S3 w0 w b x y lv uv px py∧Bx w p 34 (BL d lv1 uv1 i s k)∧Bx w p' 34 (BL d' lv2 uv2 i' s' k')
def C5(w:World)(b:Bkt)(x y:Actn)(lv uv px py:Value)(d:Bkt)(lv1 uv1:Value)(d':Bkt)(lv2 uv2:Value):Prop:=C3 w b x y lv uv px py∧BktV w d lv1 uv1∧BktV w d' lv2 uv2
theorem S5.on(h:S5 w0 w b x y lv uv px py p d lv1 uv1 i s k p' d' lv2 uv2 i' s' k')(q:Q w w'):S5 w0 w' b x y lv uv px py p d lv1 uv1 i s k p' d' lv2 uv2 i' s' k':=⟨h.1.on q,h.2.1.on q,h.2.2.on q⟩
theorem S5.kp(h:S5 w0 w b x y lv uv px py p d lv1 uv1 i s k p' d' lv2 uv2 i' s' k')(g:Kp r w w')(hp:w0.heap.size+2<r)(h1:p≠r)(h2:p'≠r):S5 w0 w' b x y lv uv px py p d lv1 uv1 i s k p' d' lv2 uv2 i' s' k':=
 ⟨h.1.kp g hp,g.bx h.2.1 h1,g.bx h.2.2 h2⟩
theorem C5.on(h:C5 w b x y lv uv px py d lv1 uv1 d' lv2 uv2)(q:Q w w'):C5 w' b x y lv uv px py d lv1 uv1 d' lv2 uv2:=⟨h.1.on q,h.2.1.on q,h.2.2.on q⟩
theorem C5.kp(h:C5 w b x y lv uv px py d lv1 uv1 d' lv2 uv2)(c:Calm w r)(g:Kp r w w'):C5 w' b x y lv uv px py d lv1 uv1 d' lv2 uv2:=⟨h.1.kp c g,h.2.1.kp c g,h.2.2.kp c g⟩
theorem In5.of{A A' Ax Ay B1 B2 B3 B4:Option Addr}{c c' cx cy e1 e2 e3 e4:Nat}(h:S5 w0 w b x y (.slice A b.L.length c) (.slice A' b.U.length c') (.slice Ax x.P.length cx) (.slice Ay y.P.length cy) p d (.slice B1 d.L.length e1) (.slice B2 d.U.length e2) i s k p' d' (.slice B3 d'.L.length e3) (.slice B4 d'.U.length e4) i' s' k')
  (g:C5 w b x y (.slice A b.L.length c) (.slice A' b.U.length c') (.slice Ax x.P.length cx) (.slice Ay y.P.length cy) d (.slice B1 d.L.length e1) (.slice B2 d.U.length e2) d' (.slice B3 d'.L.length e3) (.slice B4 d'.U.length e4)):In5 w0 w b x y p d i s k p' d' i' s' k':=
 ⟨In3.of h.1 g.1,⟨_,_,_,_,h.2.1,g.2.1⟩,⟨_,_,_,_,h.2.2,g.2.2⟩⟩
end
end
section
open Go.ChangeShapes Go.WideShapes Go.ChangeAt Go.RowKit
def T9(x:Ver):ByteArray×Bool×Int:=(x.data,x.mark,x.tm)
def simV(l m:List Ver):Prop:=l.map T9=m.map T9
theorem simV.nil{l m:List Ver}(h:simV l m):l=[]↔m=[]:=by
 have:=congrArg List.length h
 simp only [List.length_map] at this
 rw [← List.length_eq_zero_iff,← List.length_eq_zero_iff]
 omega
def StpC(a:Actn)(l:List Ver)(st:Int)(m:Nat)(L:List Ver):Prop:=
 ((a.kind%9=0∨a.kind%9=1)∧PutC l st ⟨m,a.data,false,a.tm⟩ L 0)∨(a.kind%9=2∧J1 l st m a.tm L 0)∨(a.kind%9=3∧DropC l a.id L 0)
end
section
open Go.ChangeShapes Go.WideShapes Go.ChangeAt Go.RowKit
theorem TE(n:Nat):n%9=0∨n%9=1∨n%9=2∨n%9=3∨n%9=4∨n%9=5∨n%9=6∨n%9=7∨n%9=8:=by omega
theorem TO(b:Bkt)(a:Actn):∃ d n t s k,BC b (DoR b a) d n t s k:=by
 refine Rp b ?_
 rcases TE a.kind with h9 | h9 | h9 | h9 | h9 | h9 | h9 | h9 | h9
 ·rw [QK h9];obtain⟨d,m,k,h⟩:=II b 0 a.key a.data a.tm;exact⟨d,m,0,noS,k,h,rfl,rfl⟩
 ·rw [QJ h9];obtain⟨d,m,k,h⟩:=II b 0 a.key a.data a.tm;exact⟨d,m,0,noS,k,h,rfl,rfl⟩
 ·rw [QI h9];obtain⟨d,m,k,h⟩:=Qy b 0 a.key a.tm;exact⟨d,m,0,noS,k,h,rfl,rfl⟩
 ·rw [QH h9];obtain⟨d,k,h⟩:=OT b a.key a.id;exact⟨d,0,0,noS,k,h,rfl,rfl,rfl⟩
 ·rw [QG h9];obtain⟨d,k,h⟩:=OJ b a.n;exact⟨d,0,0,noS,k,h,rfl,rfl,rfl⟩
 ·rw [QF h9];obtain⟨d,m,k,h⟩:=Q1 b 0 a.key;exact⟨d,m,0,noS,k,h,rfl,rfl⟩
 ·rw [QE h9];obtain⟨d,t,k,h⟩:=Qu b a.id ⟨a.n,a.data⟩;exact⟨d,0,t,noS,k,h,rfl,rfl⟩
 ·rw [QD h9];obtain⟨d,k,h⟩:=Q3 b a.id;exact⟨d,0,0,noS,k,h,rfl,rfl,rfl⟩
 ·rw [QC h9];obtain⟨d,m,s,k,h⟩:=Qs b 0 a.id a.P a.tm;exact⟨d,m,0,s,k,h,rfl⟩
theorem TN{b d:Bkt}{a:Actn}{n t:Nat}{s:ByteArray}{k:Nat}(hb:okB b)(h:BC b (DoR b a) d n t s k):okB d:=by
 rcases TE a.kind with h9 | h9 | h9 | h9 | h9 | h9 | h9 | h9 | h9
 ·rw [QK h9] at h;exact Bk Ek hb h
 ·rw [QJ h9] at h;exact Bk Ek hb h
 ·rw [QI h9] at h;exact Bk I1 hb h
 ·rw [QH h9] at h;exact Bk Gb hb h
 ·rw [QG h9] at h;exact Bk GB hb h
 ·rw [QF h9] at h;exact Bk JA hb h
 ·rw [QE h9] at h;exact Bk It hb h
 ·rw [QD h9] at h;exact Bk Ny hb h
 ·rw [QC h9] at h;exact Bk IL hb h
end
end Go.Proofs.YtjjlbbfhmpbneaaGreat
