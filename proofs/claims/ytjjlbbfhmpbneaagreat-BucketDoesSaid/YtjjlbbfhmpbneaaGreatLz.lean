/-
  Contract of the statements' Do. How a bucket, and an act, that come in are opened; the closed fact on the program's settings.
-/
import Derived.Test.YtjjlbbfhmpbneaaGreatLy
import Derived.Test.YtjjlbbfhmpbneaaGreatLw
import Derived.Test.YtjjlbbfhmpbneaaGreatLx
import Derived.Test.YtjjlbbfhmpbneaaGreatLya
namespace Go.Proofs.YtjjlbbfhmpbneaaGreat
open Lib renaming hid → AC
set_option maxHeartbeats 16000000
set_option maxRecDepth 100000
set_option linter.unusedVariables false
set_option linter.unusedSimpArgs false
section
open Go.ChangeShapes Go.WideShapes Go.ChangeAt Go.RowKit Go.Shelf
def BL(d:Bkt)(lv uv:Value)(i:Nat)(s:ByteArray)(k:Nat):Array Value:=#[.string d.name,.int .i64 d.st,lv,uv,.int .u64 (d.last:Nat),.int .u64 (i:Nat),.string s,.int .i64 (k:Nat)]
def BZ(d:Bkt)(lv uv:Value)(i:Nat)(s:ByteArray)(k:Nat):Value:=.agg (BL d lv uv i s k)
def DoR(b:Bkt)(a:Actn):Bkt→Nat→Nat→ByteArray→Nat→Prop:=match a.kind%9 with
 | 0=>ID b a.key a.data a.tm
 | 1=>ID b a.key a.data a.tm
 | 2=>N2 b a.key a.tm
 | 3=>FP b a.key a.id
 | 4=>FO b a.n
 | 5=>N7 b a.key
 | 6=>N1 b a.id ⟨a.n,a.data⟩
 | 7=>Lc b a.id
 | _=>Nz b a.id a.P a.tm
theorem oq{w:World}{o1 o2 o3 o4:Obj}: Q w ((((w.alloc o1).alloc o2).alloc o3).alloc o4):=((((Q.refl w).alloc _).alloc _).alloc _).alloc _
theorem zyZ{w:World}{o1 o2 o3:Obj}{D:Array Value}{t:TypeId}: Bx ((((w.alloc o1).alloc o2).alloc o3).alloc (.cells D t)) (w.heap.size+1+1+1) t D:=by
 have h:=Bx.new (((w.alloc o1).alloc o2).alloc o3) t D
 simpa only [World.size_alloc] using h
theorem zyY{w:World}{o1 o2 o4:Obj}{D:Array Value}{t:TypeId}: Bx ((((w.alloc o1).alloc o2).alloc (.cells D t)).alloc o4) (w.heap.size+1+1) t D:=by
 have h:=(Bx.new ((w.alloc o1).alloc o2) t D).alloc o4
 simpa only [World.size_alloc] using h
theorem BJ{b d:Bkt}{R:Bkt→Nat→Nat→ByteArray→Nat→Prop}{n t:Nat}{s:ByteArray}{k:Nat}{P:Nat→Nat→ByteArray→Prop}(h:BC b R d n t s k)(h0:P 0 0 noS)(hR:∀ d n t s k,R d n t s k→P n t s):P n t s:=by
 rcases h with⟨-,⟨-,rfl,rfl,rfl⟩,-⟩ | ⟨-,d1,n1,t1,s1,k1,hr,⟨-,⟨-,rfl,rfl,rfl⟩,-⟩ | ⟨-,-,⟨-,rfl,rfl,rfl⟩,-⟩ | ⟨-,-,⟨-,rfl,rfl,rfl⟩,-⟩⟩
 ·exact h0
 ·exact h0
 ·exact h0
 ·exact hR _ _ _ _ _ hr
theorem AJ{w:World}{p:Nat}{x0 x1 x2 x3 x4 x5 x6 x7:Value}(h:Bx w p 34 #[x0,x1,x2,x3,x4,x5,x6,x7]):
  (w.cell? ⟨p,0,none⟩=some x0∧w.cell? ⟨p,1,none⟩=some x1∧w.cell? ⟨p,2,none⟩=some x2∧w.cell? ⟨p,3,none⟩=some x3∧w.cell? ⟨p,4,none⟩=some x4∧w.cell? ⟨p,5,none⟩=some x5∧w.cell? ⟨p,6,none⟩=some x6∧w.cell? ⟨p,7,none⟩=some x7)∧
  (w.frozen? ⟨p,0,none⟩=false∧w.frozen? ⟨p,1,none⟩=false∧w.frozen? ⟨p,2,none⟩=false∧w.frozen? ⟨p,3,none⟩=false∧w.frozen? ⟨p,4,none⟩=false∧w.frozen? ⟨p,5,none⟩=false∧w.frozen? ⟨p,6,none⟩=false∧w.frozen? ⟨p,7,none⟩=false):=by
 refine⟨⟨?_,?_,?_,?_,?_,?_,?_,?_⟩,h.frozen 0,h.frozen 1,h.frozen 2,h.frozen 3,h.frozen 4,h.frozen 5,h.frozen 6,h.frozen 7⟩ <;> (rw [h.cell];rfl)
theorem AQ{w:World}{p:Nat}{x0 x1 x2 x3 x4 x5 x6 x7 y0 y1 y2 y3 y4 y5 y6 y7:Value}(h:Bx w p 34 #[x0,x1,x2,x3,x4,x5,x6,x7]):
  Bx ((((((((w.setCell ⟨p,0,none⟩ y0).setCell ⟨p,1,none⟩ y1).setCell ⟨p,2,none⟩ y2).setCell ⟨p,3,none⟩ y3).setCell ⟨p,4,none⟩ y4).setCell ⟨p,5,none⟩ y5).setCell ⟨p,6,none⟩ y6).setCell ⟨p,7,none⟩ y7) p 34 #[y0,y1,y2,y3,y4,y5,y6,y7]∧
  Kp p w ((((((((w.setCell ⟨p,0,none⟩ y0).setCell ⟨p,1,none⟩ y1).setCell ⟨p,2,none⟩ y2).setCell ⟨p,3,none⟩ y3).setCell ⟨p,4,none⟩ y4).setCell ⟨p,5,none⟩ y5).setCell ⟨p,6,none⟩ y6).setCell ⟨p,7,none⟩ y7):=by
 have h0:Bx _ p 34 #[y0,x1,x2,x3,x4,x5,x6,x7]:=h.set 0 y0
 have h1:Bx _ p 34 #[y0,y1,x2,x3,x4,x5,x6,x7]:=h0.set 1 y1
 have h2:Bx _ p 34 #[y0,y1,y2,x3,x4,x5,x6,x7]:=h1.set 2 y2
 have h3:Bx _ p 34 #[y0,y1,y2,y3,x4,x5,x6,x7]:=h2.set 3 y3
 have h4:Bx _ p 34 #[y0,y1,y2,y3,y4,x5,x6,x7]:=h3.set 4 y4
 have h5:Bx _ p 34 #[y0,y1,y2,y3,y4,y5,x6,x7]:=h4.set 5 y5
 have h6:Bx _ p 34 #[y0,y1,y2,y3,y4,y5,y6,x7]:=h5.set 6 y6
 exact⟨h6.set 7 y7,((((((((Kp.of (Q.refl w)).set 0 _).set 1 _).set 2 _).set 3 _).set 4 _).set 5 _).set 6 _).set 7 _⟩
theorem QK{b:Bkt}{a:Actn}(h:a.kind%9=0):DoR b a=ID b a.key a.data a.tm:=by unfold DoR;rw [h];rfl
theorem QJ{b:Bkt}{a:Actn}(h:a.kind%9=1):DoR b a=ID b a.key a.data a.tm:=by unfold DoR;rw [h];rfl
theorem QI{b:Bkt}{a:Actn}(h:a.kind%9=2):DoR b a=N2 b a.key a.tm:=by unfold DoR;rw [h];rfl
theorem QH{b:Bkt}{a:Actn}(h:a.kind%9=3):DoR b a=FP b a.key a.id:=by unfold DoR;rw [h];rfl
theorem QG{b:Bkt}{a:Actn}(h:a.kind%9=4):DoR b a=FO b a.n:=by unfold DoR;rw [h];rfl
theorem QF{b:Bkt}{a:Actn}(h:a.kind%9=5):DoR b a=N7 b a.key:=by unfold DoR;rw [h];rfl
theorem QE{b:Bkt}{a:Actn}(h:a.kind%9=6):DoR b a=N1 b a.id ⟨a.n,a.data⟩:=by unfold DoR;rw [h];rfl
theorem QD{b:Bkt}{a:Actn}(h:a.kind%9=7):DoR b a=Lc b a.id:=by unfold DoR;rw [h];rfl
theorem QC{b:Bkt}{a:Actn}(h:a.kind%9=8):DoR b a=Nz b a.id a.P a.tm:=by unfold DoR;rw [h];rfl
theorem SH(b:Bkt)(lv uv:Value)(a:Actn)(pv:Value)(w:World)(d:Bkt)(n t:Nat)(s:ByteArray)(k:Nat)(hr:a.kind%9=0)(hF:BC b (ID b a.key a.data a.tm) d n t s k)(ha:EA a)(hkey:a.key.size≤1000)(hPl:a.P.length≤1000)(hn:b.name.size≤1000)(hs:smE b.L)(hu:smL b.U)(hv:BktV w b lv uv)(hp:Pces w w.heap.size pv a.P):
  Calls Tryz.prog 12 #[bkt b lv uv,Bc a pv] w fun e w'=>∃ A c A' c',e=.returned (BZ d (.slice A d.L.length c) (.slice A' d.U.length c') (n+t) s k)∧BktV w' d (.slice A d.L.length c) (.slice A' d.U.length c')∧Q w w':=by
 obtain⟨A1,c1,rfl⟩:=hv.1.form
 obtain⟨A2,c2,rfl⟩:=hv.2.form
 obtain⟨A3,c3,rfl⟩:=hp.form
 obtain⟨hkd,-,hdat,-,hnn,htm,-⟩:=ha
 obtain⟨rfl,rfl⟩:t=0∧s=noS:=BJ (P:=fun _ t s=>t=0∧s=noS) hF ⟨rfl,rfl⟩ (fun _ _ _ _ _ h=>⟨h.2.1,h.2.2⟩)
 have C:=AC fun x (q:Q w x)=>EY b (.slice A1 b.L.length c1) (.slice A2 b.U.length c2) x a.key a.data a.tm d _ _ _ k hF hn hs hu hkey hdat htm.1 htm.2 (hv.on q)
 have hk9:(a.kind:Int)%9=0:=by omega
 obtain⟨kd,hkd2⟩:∃ kd:Int,kd=(a.kind:Int):=⟨_,rfl⟩
 have HKT:Hid (kd.tmod 9=0):=AC (by rw [hkd2,Int.tmod_eq_emod_of_nonneg (by omega),hk9])
 have HKD:=AC hkd2
 clear hF hn hs hu hv hp hr hk9 hkd hkey hPl hdat hnn htm
 simp only [bkt] at C
 rw [Bc,acl,bkt]
 rw [← hkd2]
 clear hkd2
 go_enter Tryz.func12,Tryz.ntmps12
 go_upto_region 4 with fail
 rw [HKT.out]
 have hkd3:=HKD.out
 clear HKT HKD
 subst hkd3
 go_wp2_with fail
 refine(C.out _ oq).mono ?_
 rintro e w1 ⟨A,c,A',c',rfl,v1,q1⟩
 have z1:=zyZ.on q1
 have y1:=zyY.on q1
 have V:=AC v1
 have ZZ:=AC z1
 have YY:=AC y1
 have QQ:=AC (oq.trans q1)
 obtain⟨⟨r0,r1,r2,r3,r4,r5,r6,r7⟩,f0,f1,f2,f3,f4,f5,f6,f7⟩:=AJ z1
 obtain⟨⟨s0,s1,s2,s3,s4,s5,s6,s7⟩,g0,g1,g2,g3,g4,g5,g6,g7⟩:=AJ y1
 clear v1 z1 y1 C
 simp only [bkt]
 go_wp2
 (try simp only [Exit.inBlock,Exit.then])
 obtain⟨wM,hwM⟩:∃ x,x=(((((((w1.setCell ⟨w.heap.size+1+1+1,0,none⟩ (.string d.name)).setCell ⟨w.heap.size+1+1+1,1,none⟩ (.int .i64 d.st)).setCell ⟨w.heap.size+1+1+1,2,none⟩ (.slice A d.L.length c)).setCell ⟨w.heap.size+1+1+1,3,none⟩ (.slice A' d.U.length c')).setCell ⟨w.heap.size+1+1+1,4,none⟩ (.int .u64 (d.last:Nat))).setCell ⟨w.heap.size+1+1+1,5,none⟩ (.int .u64 (n:Nat))).setCell ⟨w.heap.size+1+1+1,7,none⟩ (.int .i64 (k:Nat))):=⟨_,rfl⟩
 rw [← hwM]
 have gM:Kp (w.heap.size+1+1+1) w1 wM:=by rw [hwM];exact((((((((Kp.of (Q.refl _)).set 0 _).set 1 _).set 2 _).set 3 _).set 4 _).set 5 _).set 7 _)
 have yM:=gM.bx YY.out (by omega)
 have vM:=V.out.kp (show Calm w1 (w.heap.size+1+1+1) from⟨_,_,ZZ.out,rfl⟩) gM
 have qM:=gM.q QQ.out (by omega)
 obtain⟨wC,hwC⟩:∃ x,x=((((((((wM.setCell ⟨w.heap.size+1+1,0,none⟩ (.string d.name)).setCell ⟨w.heap.size+1+1,1,none⟩ (.int .i64 d.st)).setCell ⟨w.heap.size+1+1,2,none⟩ (.slice A d.L.length c)).setCell ⟨w.heap.size+1+1,3,none⟩ (.slice A' d.U.length c')).setCell ⟨w.heap.size+1+1,4,none⟩ (.int .u64 (d.last:Nat))).setCell ⟨w.heap.size+1+1,5,none⟩ (.int .u64 (n:Nat))).setCell ⟨w.heap.size+1+1,6,none⟩ (.string ⟨#[]⟩)).setCell ⟨w.heap.size+1+1,7,none⟩ (.int .i64 (k:Nat))):=⟨_,rfl⟩
 rw [← hwC]
 have bC:Bx wC (w.heap.size+1+1) 34 (BL d (.slice A d.L.length c) (.slice A' d.U.length c') (n+0) noS k):=by rw [hwC];have h:=(AQ (y0:=.string d.name) (y1:=.int .i64 d.st) (y2:=.slice A d.L.length c) (y3:=.slice A' d.U.length c') (y4:=.int .u64 (d.last:Nat)) (y5:=.int .u64 (n:Nat)) (y6:=.string ⟨#[]⟩) (y7:=.int .i64 (k:Nat)) yM).1;first | exact h | (simp only [BL,Nat.zero_add,Nat.add_zero];exact h)
 have gC:Kp (w.heap.size+1+1) wM wC:=by rw [hwC];exact(AQ yM).2
 have vC:=vM.kp (show Calm wM (w.heap.size+1+1) from⟨_,_,yM,rfl⟩) gC
 have qC:=gC.q qM (by omega)
 clear hwM hwC gM yM vM qM gC
 obtain⟨⟨v0,v1,v2,v3,v4,v5,v6,v7⟩,-⟩:=AJ (show Bx wC (w.heap.size+1+1) 34 #[.string d.name,.int .i64 d.st,.slice A d.L.length c,.slice A' d.U.length c',.int .u64 (d.last:Nat),.int .u64 (((n+0):Nat):Int),.string noS,.int .i64 (k:Nat)] from bC)
 refine bodyPost_ret (v:=BZ d (.slice A d.L.length c) (.slice A' d.U.length c') (n+0) noS k) ?_ rfl ⟨A,c,A',c',rfl,vC,qC⟩
 simp [results,Tryz.results12,go_sem,v0,v1,v2,v3,v4,v5,v6,v7,BZ,BL]
theorem SG(b:Bkt)(lv uv:Value)(a:Actn)(pv:Value)(w:World)(d:Bkt)(n t:Nat)(s:ByteArray)(k:Nat)(hr:a.kind%9=1)(hF:BC b (ID b a.key a.data a.tm) d n t s k)(ha:EA a)(hkey:a.key.size≤1000)(hPl:a.P.length≤1000)(hn:b.name.size≤1000)(hs:smE b.L)(hu:smL b.U)(hv:BktV w b lv uv)(hp:Pces w w.heap.size pv a.P):
  Calls Tryz.prog 12 #[bkt b lv uv,Bc a pv] w fun e w'=>∃ A c A' c',e=.returned (BZ d (.slice A d.L.length c) (.slice A' d.U.length c') (n+t) s k)∧BktV w' d (.slice A d.L.length c) (.slice A' d.U.length c')∧Q w w':=by
 obtain⟨A1,c1,rfl⟩:=hv.1.form
 obtain⟨A2,c2,rfl⟩:=hv.2.form
 obtain⟨A3,c3,rfl⟩:=hp.form
 obtain⟨hkd,-,hdat,-,hnn,htm,-⟩:=ha
 obtain⟨rfl,rfl⟩:t=0∧s=noS:=BJ (P:=fun _ t s=>t=0∧s=noS) hF ⟨rfl,rfl⟩ (fun _ _ _ _ _ h=>⟨h.2.1,h.2.2⟩)
 have C:=AC fun x (q:Q w x)=>EY b (.slice A1 b.L.length c1) (.slice A2 b.U.length c2) x a.key a.data a.tm d _ _ _ k hF hn hs hu hkey hdat htm.1 htm.2 (hv.on q)
 have hk9:(a.kind:Int)%9=1:=by omega
 obtain⟨kd,hkd2⟩:∃ kd:Int,kd=(a.kind:Int):=⟨_,rfl⟩
 have HKT:Hid (kd.tmod 9=1):=AC (by rw [hkd2,Int.tmod_eq_emod_of_nonneg (by omega),hk9])
 have HKD:=AC hkd2
 clear hF hn hs hu hv hp hr hk9 hkd hkey hPl hdat hnn htm
 simp only [bkt] at C
 rw [Bc,acl,bkt]
 rw [← hkd2]
 clear hkd2
 go_enter Tryz.func12,Tryz.ntmps12
 go_upto_region 4 with fail
 rw [HKT.out]
 have hkd3:=HKD.out
 clear HKT HKD
 subst hkd3
 go_wp2_with fail
 refine(C.out _ oq).mono ?_
 rintro e w1 ⟨A,c,A',c',rfl,v1,q1⟩
 have z1:=zyZ.on q1
 have y1:=zyY.on q1
 have V:=AC v1
 have ZZ:=AC z1
 have YY:=AC y1
 have QQ:=AC (oq.trans q1)
 obtain⟨⟨r0,r1,r2,r3,r4,r5,r6,r7⟩,f0,f1,f2,f3,f4,f5,f6,f7⟩:=AJ z1
 obtain⟨⟨s0,s1,s2,s3,s4,s5,s6,s7⟩,g0,g1,g2,g3,g4,g5,g6,g7⟩:=AJ y1
 clear v1 z1 y1 C
 simp only [bkt]
 go_wp2
 (try simp only [Exit.inBlock,Exit.then])
 obtain⟨wM,hwM⟩:∃ x,x=(((((((w1.setCell ⟨w.heap.size+1+1+1,0,none⟩ (.string d.name)).setCell ⟨w.heap.size+1+1+1,1,none⟩ (.int .i64 d.st)).setCell ⟨w.heap.size+1+1+1,2,none⟩ (.slice A d.L.length c)).setCell ⟨w.heap.size+1+1+1,3,none⟩ (.slice A' d.U.length c')).setCell ⟨w.heap.size+1+1+1,4,none⟩ (.int .u64 (d.last:Nat))).setCell ⟨w.heap.size+1+1+1,5,none⟩ (.int .u64 (n:Nat))).setCell ⟨w.heap.size+1+1+1,7,none⟩ (.int .i64 (k:Nat))):=⟨_,rfl⟩
 rw [← hwM]
 have gM:Kp (w.heap.size+1+1+1) w1 wM:=by rw [hwM];exact((((((((Kp.of (Q.refl _)).set 0 _).set 1 _).set 2 _).set 3 _).set 4 _).set 5 _).set 7 _)
 have yM:=gM.bx YY.out (by omega)
 have vM:=V.out.kp (show Calm w1 (w.heap.size+1+1+1) from⟨_,_,ZZ.out,rfl⟩) gM
 have qM:=gM.q QQ.out (by omega)
 obtain⟨wC,hwC⟩:∃ x,x=((((((((wM.setCell ⟨w.heap.size+1+1,0,none⟩ (.string d.name)).setCell ⟨w.heap.size+1+1,1,none⟩ (.int .i64 d.st)).setCell ⟨w.heap.size+1+1,2,none⟩ (.slice A d.L.length c)).setCell ⟨w.heap.size+1+1,3,none⟩ (.slice A' d.U.length c')).setCell ⟨w.heap.size+1+1,4,none⟩ (.int .u64 (d.last:Nat))).setCell ⟨w.heap.size+1+1,5,none⟩ (.int .u64 (n:Nat))).setCell ⟨w.heap.size+1+1,6,none⟩ (.string ⟨#[]⟩)).setCell ⟨w.heap.size+1+1,7,none⟩ (.int .i64 (k:Nat))):=⟨_,rfl⟩
 rw [← hwC]
 have bC:Bx wC (w.heap.size+1+1) 34 (BL d (.slice A d.L.length c) (.slice A' d.U.length c') (n+0) noS k):=by rw [hwC];have h:=(AQ (y0:=.string d.name) (y1:=.int .i64 d.st) (y2:=.slice A d.L.length c) (y3:=.slice A' d.U.length c') (y4:=.int .u64 (d.last:Nat)) (y5:=.int .u64 (n:Nat)) (y6:=.string ⟨#[]⟩) (y7:=.int .i64 (k:Nat)) yM).1;first | exact h | (simp only [BL,Nat.zero_add,Nat.add_zero];exact h)
 have gC:Kp (w.heap.size+1+1) wM wC:=by rw [hwC];exact(AQ yM).2
 have vC:=vM.kp (show Calm wM (w.heap.size+1+1) from⟨_,_,yM,rfl⟩) gC
 have qC:=gC.q qM (by omega)
 clear hwM hwC gM yM vM qM gC
 obtain⟨⟨v0,v1,v2,v3,v4,v5,v6,v7⟩,-⟩:=AJ (show Bx wC (w.heap.size+1+1) 34 #[.string d.name,.int .i64 d.st,.slice A d.L.length c,.slice A' d.U.length c',.int .u64 (d.last:Nat),.int .u64 (((n+0):Nat):Int),.string noS,.int .i64 (k:Nat)] from bC)
 refine bodyPost_ret (v:=BZ d (.slice A d.L.length c) (.slice A' d.U.length c') (n+0) noS k) ?_ rfl ⟨A,c,A',c',rfl,vC,qC⟩
 simp [results,Tryz.results12,go_sem,v0,v1,v2,v3,v4,v5,v6,v7,BZ,BL]
theorem SF(b:Bkt)(lv uv:Value)(a:Actn)(pv:Value)(w:World)(d:Bkt)(n t:Nat)(s:ByteArray)(k:Nat)(hr:a.kind%9=2)(hF:BC b (N2 b a.key a.tm) d n t s k)(ha:EA a)(hkey:a.key.size≤1000)(hPl:a.P.length≤1000)(hn:b.name.size≤1000)(hs:smE b.L)(hu:smL b.U)(hv:BktV w b lv uv)(hp:Pces w w.heap.size pv a.P):
  Calls Tryz.prog 12 #[bkt b lv uv,Bc a pv] w fun e w'=>∃ A c A' c',e=.returned (BZ d (.slice A d.L.length c) (.slice A' d.U.length c') (n+t) s k)∧BktV w' d (.slice A d.L.length c) (.slice A' d.U.length c')∧Q w w':=by
 obtain⟨A1,c1,rfl⟩:=hv.1.form
 obtain⟨A2,c2,rfl⟩:=hv.2.form
 obtain⟨A3,c3,rfl⟩:=hp.form
 obtain⟨hkd,-,hdat,-,hnn,htm,-⟩:=ha
 obtain⟨rfl,rfl⟩:t=0∧s=noS:=BJ (P:=fun _ t s=>t=0∧s=noS) hF ⟨rfl,rfl⟩ (fun _ _ _ _ _ h=>⟨h.2.1,h.2.2⟩)
 have C:=AC fun x (q:Q w x)=>DJ b (.slice A1 b.L.length c1) (.slice A2 b.U.length c2) x a.key a.tm d _ _ _ k hF hn hs hu hkey htm.1 htm.2 (hv.on q)
 have hk9:(a.kind:Int)%9=2:=by omega
 obtain⟨kd,hkd2⟩:∃ kd:Int,kd=(a.kind:Int):=⟨_,rfl⟩
 have HKT:Hid (kd.tmod 9=2):=AC (by rw [hkd2,Int.tmod_eq_emod_of_nonneg (by omega),hk9])
 have HKD:=AC hkd2
 clear hF hn hs hu hv hp hr hk9 hkd hkey hPl hdat hnn htm
 simp only [bkt] at C
 rw [Bc,acl,bkt]
 rw [← hkd2]
 clear hkd2
 go_enter Tryz.func12,Tryz.ntmps12
 go_upto_region 4 with fail
 rw [HKT.out]
 have hkd3:=HKD.out
 clear HKT HKD
 subst hkd3
 go_wp2_with fail
 refine(C.out _ oq).mono ?_
 rintro e w1 ⟨A,c,A',c',rfl,v1,q1⟩
 have z1:=zyZ.on q1
 have y1:=zyY.on q1
 have V:=AC v1
 have ZZ:=AC z1
 have YY:=AC y1
 have QQ:=AC (oq.trans q1)
 obtain⟨⟨r0,r1,r2,r3,r4,r5,r6,r7⟩,f0,f1,f2,f3,f4,f5,f6,f7⟩:=AJ z1
 obtain⟨⟨s0,s1,s2,s3,s4,s5,s6,s7⟩,g0,g1,g2,g3,g4,g5,g6,g7⟩:=AJ y1
 clear v1 z1 y1 C
 simp only [bkt]
 go_wp2
 (try simp only [Exit.inBlock,Exit.then])
 obtain⟨wM,hwM⟩:∃ x,x=(((((((w1.setCell ⟨w.heap.size+1+1+1,0,none⟩ (.string d.name)).setCell ⟨w.heap.size+1+1+1,1,none⟩ (.int .i64 d.st)).setCell ⟨w.heap.size+1+1+1,2,none⟩ (.slice A d.L.length c)).setCell ⟨w.heap.size+1+1+1,3,none⟩ (.slice A' d.U.length c')).setCell ⟨w.heap.size+1+1+1,4,none⟩ (.int .u64 (d.last:Nat))).setCell ⟨w.heap.size+1+1+1,5,none⟩ (.int .u64 (n:Nat))).setCell ⟨w.heap.size+1+1+1,7,none⟩ (.int .i64 (k:Nat))):=⟨_,rfl⟩
 rw [← hwM]
 have gM:Kp (w.heap.size+1+1+1) w1 wM:=by rw [hwM];exact((((((((Kp.of (Q.refl _)).set 0 _).set 1 _).set 2 _).set 3 _).set 4 _).set 5 _).set 7 _)
 have yM:=gM.bx YY.out (by omega)
 have vM:=V.out.kp (show Calm w1 (w.heap.size+1+1+1) from⟨_,_,ZZ.out,rfl⟩) gM
 have qM:=gM.q QQ.out (by omega)
 obtain⟨wC,hwC⟩:∃ x,x=((((((((wM.setCell ⟨w.heap.size+1+1,0,none⟩ (.string d.name)).setCell ⟨w.heap.size+1+1,1,none⟩ (.int .i64 d.st)).setCell ⟨w.heap.size+1+1,2,none⟩ (.slice A d.L.length c)).setCell ⟨w.heap.size+1+1,3,none⟩ (.slice A' d.U.length c')).setCell ⟨w.heap.size+1+1,4,none⟩ (.int .u64 (d.last:Nat))).setCell ⟨w.heap.size+1+1,5,none⟩ (.int .u64 (n:Nat))).setCell ⟨w.heap.size+1+1,6,none⟩ (.string ⟨#[]⟩)).setCell ⟨w.heap.size+1+1,7,none⟩ (.int .i64 (k:Nat))):=⟨_,rfl⟩
 rw [← hwC]
 have bC:Bx wC (w.heap.size+1+1) 34 (BL d (.slice A d.L.length c) (.slice A' d.U.length c') (n+0) noS k):=by rw [hwC];have h:=(AQ (y0:=.string d.name) (y1:=.int .i64 d.st) (y2:=.slice A d.L.length c) (y3:=.slice A' d.U.length c') (y4:=.int .u64 (d.last:Nat)) (y5:=.int .u64 (n:Nat)) (y6:=.string ⟨#[]⟩) (y7:=.int .i64 (k:Nat)) yM).1;first | exact h | (simp only [BL,Nat.zero_add,Nat.add_zero];exact h)
 have gC:Kp (w.heap.size+1+1) wM wC:=by rw [hwC];exact(AQ yM).2
 have vC:=vM.kp (show Calm wM (w.heap.size+1+1) from⟨_,_,yM,rfl⟩) gC
 have qC:=gC.q qM (by omega)
 clear hwM hwC gM yM vM qM gC
 obtain⟨⟨v0,v1,v2,v3,v4,v5,v6,v7⟩,-⟩:=AJ (show Bx wC (w.heap.size+1+1) 34 #[.string d.name,.int .i64 d.st,.slice A d.L.length c,.slice A' d.U.length c',.int .u64 (d.last:Nat),.int .u64 (((n+0):Nat):Int),.string noS,.int .i64 (k:Nat)] from bC)
 refine bodyPost_ret (v:=BZ d (.slice A d.L.length c) (.slice A' d.U.length c') (n+0) noS k) ?_ rfl ⟨A,c,A',c',rfl,vC,qC⟩
 simp [results,Tryz.results12,go_sem,v0,v1,v2,v3,v4,v5,v6,v7,BZ,BL]
theorem SC(b:Bkt)(lv uv:Value)(a:Actn)(pv:Value)(w:World)(d:Bkt)(n t:Nat)(s:ByteArray)(k:Nat)(hr:a.kind%9=3)(hF:BC b (FP b a.key a.id) d n t s k)(ha:EA a)(hkey:a.key.size≤1000)(hPl:a.P.length≤1000)(hn:b.name.size≤1000)(hs:smE b.L)(hu:smL b.U)(hv:BktV w b lv uv)(hp:Pces w w.heap.size pv a.P):
  Calls Tryz.prog 12 #[bkt b lv uv,Bc a pv] w fun e w'=>∃ A c A' c',e=.returned (BZ d (.slice A d.L.length c) (.slice A' d.U.length c') (n+t) s k)∧BktV w' d (.slice A d.L.length c) (.slice A' d.U.length c')∧Q w w':=by
 obtain⟨A1,c1,rfl⟩:=hv.1.form
 obtain⟨A2,c2,rfl⟩:=hv.2.form
 obtain⟨A3,c3,rfl⟩:=hp.form
 obtain⟨hkd,-,hdat,-,hnn,htm,-⟩:=ha
 obtain⟨rfl,rfl,rfl⟩:n=0∧t=0∧s=noS:=BJ (P:=fun n t s=>n=0∧t=0∧s=noS) hF ⟨rfl,rfl,rfl⟩ (fun _ _ _ _ _ h=>⟨h.2.1,h.2.2.1,h.2.2.2⟩)
 have C:=AC fun x (q:Q w x)=>IA b (.slice A1 b.L.length c1) (.slice A2 b.U.length c2) x a.key a.id d _ _ _ k hF hn hs hu hkey (hv.on q)
 have hk9:(a.kind:Int)%9=3:=by omega
 obtain⟨kd,hkd2⟩:∃ kd:Int,kd=(a.kind:Int):=⟨_,rfl⟩
 have HKT:Hid (kd.tmod 9=3):=AC (by rw [hkd2,Int.tmod_eq_emod_of_nonneg (by omega),hk9])
 have HKD:=AC hkd2
 clear hF hn hs hu hv hp hr hk9 hkd hkey hPl hdat hnn htm
 simp only [bkt] at C
 rw [Bc,acl,bkt]
 rw [← hkd2]
 clear hkd2
 go_enter Tryz.func12,Tryz.ntmps12
 go_upto_region 4 with fail
 rw [HKT.out]
 have hkd3:=HKD.out
 clear HKT HKD
 subst hkd3
 go_wp2_with fail
 refine(C.out _ oq).mono ?_
 rintro e w1 ⟨A,c,A',c',rfl,v1,q1⟩
 have z1:=zyZ.on q1
 have y1:=zyY.on q1
 have V:=AC v1
 have ZZ:=AC z1
 have YY:=AC y1
 have QQ:=AC (oq.trans q1)
 obtain⟨⟨r0,r1,r2,r3,r4,r5,r6,r7⟩,f0,f1,f2,f3,f4,f5,f6,f7⟩:=AJ z1
 obtain⟨⟨s0,s1,s2,s3,s4,s5,s6,s7⟩,g0,g1,g2,g3,g4,g5,g6,g7⟩:=AJ y1
 clear v1 z1 y1 C
 simp only [bkt]
 go_wp2
 (try simp only [Exit.inBlock,Exit.then])
 obtain⟨wM,hwM⟩:∃ x,x=((((((w1.setCell ⟨w.heap.size+1+1+1,0,none⟩ (.string d.name)).setCell ⟨w.heap.size+1+1+1,1,none⟩ (.int .i64 d.st)).setCell ⟨w.heap.size+1+1+1,2,none⟩ (.slice A d.L.length c)).setCell ⟨w.heap.size+1+1+1,3,none⟩ (.slice A' d.U.length c')).setCell ⟨w.heap.size+1+1+1,4,none⟩ (.int .u64 (d.last:Nat))).setCell ⟨w.heap.size+1+1+1,7,none⟩ (.int .i64 (k:Nat))):=⟨_,rfl⟩
 rw [← hwM]
 have gM:Kp (w.heap.size+1+1+1) w1 wM:=by rw [hwM];exact(((((((Kp.of (Q.refl _)).set 0 _).set 1 _).set 2 _).set 3 _).set 4 _).set 7 _)
 have yM:=gM.bx YY.out (by omega)
 have vM:=V.out.kp (show Calm w1 (w.heap.size+1+1+1) from⟨_,_,ZZ.out,rfl⟩) gM
 have qM:=gM.q QQ.out (by omega)
 obtain⟨wC,hwC⟩:∃ x,x=((((((((wM.setCell ⟨w.heap.size+1+1,0,none⟩ (.string d.name)).setCell ⟨w.heap.size+1+1,1,none⟩ (.int .i64 d.st)).setCell ⟨w.heap.size+1+1,2,none⟩ (.slice A d.L.length c)).setCell ⟨w.heap.size+1+1,3,none⟩ (.slice A' d.U.length c')).setCell ⟨w.heap.size+1+1,4,none⟩ (.int .u64 (d.last:Nat))).setCell ⟨w.heap.size+1+1,5,none⟩ (.int .u64 0)).setCell ⟨w.heap.size+1+1,6,none⟩ (.string ⟨#[]⟩)).setCell ⟨w.heap.size+1+1,7,none⟩ (.int .i64 (k:Nat))):=⟨_,rfl⟩
 rw [← hwC]
 have bC:Bx wC (w.heap.size+1+1) 34 (BL d (.slice A d.L.length c) (.slice A' d.U.length c') (0+0) noS k):=by rw [hwC];have h:=(AQ (y0:=.string d.name) (y1:=.int .i64 d.st) (y2:=.slice A d.L.length c) (y3:=.slice A' d.U.length c') (y4:=.int .u64 (d.last:Nat)) (y5:=.int .u64 0) (y6:=.string ⟨#[]⟩) (y7:=.int .i64 (k:Nat)) yM).1;first | exact h | (simp only [BL,Nat.zero_add,Nat.add_zero];exact h)
 have gC:Kp (w.heap.size+1+1) wM wC:=by rw [hwC];exact(AQ yM).2
 have vC:=vM.kp (show Calm wM (w.heap.size+1+1) from⟨_,_,yM,rfl⟩) gC
 have qC:=gC.q qM (by omega)
 clear hwM hwC gM yM vM qM gC
 obtain⟨⟨v0,v1,v2,v3,v4,v5,v6,v7⟩,-⟩:=AJ (show Bx wC (w.heap.size+1+1) 34 #[.string d.name,.int .i64 d.st,.slice A d.L.length c,.slice A' d.U.length c',.int .u64 (d.last:Nat),.int .u64 (((0+0):Nat):Int),.string noS,.int .i64 (k:Nat)] from bC)
 refine bodyPost_ret (v:=BZ d (.slice A d.L.length c) (.slice A' d.U.length c') (0+0) noS k) ?_ rfl ⟨A,c,A',c',rfl,vC,qC⟩
 simp [results,Tryz.results12,go_sem,v0,v1,v2,v3,v4,v5,v6,v7,BZ,BL]
theorem R9(b:Bkt)(lv uv:Value)(a:Actn)(pv:Value)(w:World)(d:Bkt)(n t:Nat)(s:ByteArray)(k:Nat)(hr:a.kind%9=4)(hF:BC b (FO b a.n) d n t s k)(ha:EA a)(hkey:a.key.size≤1000)(hPl:a.P.length≤1000)(hn:b.name.size≤1000)(hs:smE b.L)(hu:smL b.U)(hv:BktV w b lv uv)(hp:Pces w w.heap.size pv a.P):
  Calls Tryz.prog 12 #[bkt b lv uv,Bc a pv] w fun e w'=>∃ A c A' c',e=.returned (BZ d (.slice A d.L.length c) (.slice A' d.U.length c') (n+t) s k)∧BktV w' d (.slice A d.L.length c) (.slice A' d.U.length c')∧Q w w':=by
 obtain⟨A1,c1,rfl⟩:=hv.1.form
 obtain⟨A2,c2,rfl⟩:=hv.2.form
 obtain⟨A3,c3,rfl⟩:=hp.form
 obtain⟨hkd,-,hdat,-,hnn,htm,-⟩:=ha
 obtain⟨rfl,rfl,rfl⟩:n=0∧t=0∧s=noS:=BJ (P:=fun n t s=>n=0∧t=0∧s=noS) hF ⟨rfl,rfl,rfl⟩ (fun _ _ _ _ _ h=>⟨h.2.1,h.2.2.1,h.2.2.2⟩)
 have C:=AC fun x (q:Q w x)=>H8 b (.slice A1 b.L.length c1) (.slice A2 b.U.length c2) x a.n d _ _ _ k hF hn hs hu  (hv.on q)
 have hk9:(a.kind:Int)%9=4:=by omega
 obtain⟨kd,hkd2⟩:∃ kd:Int,kd=(a.kind:Int):=⟨_,rfl⟩
 have HKT:Hid (kd.tmod 9=4):=AC (by rw [hkd2,Int.tmod_eq_emod_of_nonneg (by omega),hk9])
 have HKD:=AC hkd2
 clear hF hn hs hu hv hp hr hk9 hkd hkey hPl hdat hnn htm
 simp only [bkt] at C
 rw [Bc,acl,bkt]
 rw [← hkd2]
 clear hkd2
 go_enter Tryz.func12,Tryz.ntmps12
 go_upto_region 4 with fail
 rw [HKT.out]
 have hkd3:=HKD.out
 clear HKT HKD
 subst hkd3
 go_wp2_with fail
 refine(C.out _ oq).mono ?_
 rintro e w1 ⟨A,c,A',c',rfl,v1,q1⟩
 have z1:=zyZ.on q1
 have y1:=zyY.on q1
 have V:=AC v1
 have ZZ:=AC z1
 have YY:=AC y1
 have QQ:=AC (oq.trans q1)
 obtain⟨⟨r0,r1,r2,r3,r4,r5,r6,r7⟩,f0,f1,f2,f3,f4,f5,f6,f7⟩:=AJ z1
 obtain⟨⟨s0,s1,s2,s3,s4,s5,s6,s7⟩,g0,g1,g2,g3,g4,g5,g6,g7⟩:=AJ y1
 clear v1 z1 y1 C
 simp only [bkt]
 go_wp2
 (try simp only [Exit.inBlock,Exit.then])
 obtain⟨wM,hwM⟩:∃ x,x=((((((w1.setCell ⟨w.heap.size+1+1+1,0,none⟩ (.string d.name)).setCell ⟨w.heap.size+1+1+1,1,none⟩ (.int .i64 d.st)).setCell ⟨w.heap.size+1+1+1,2,none⟩ (.slice A d.L.length c)).setCell ⟨w.heap.size+1+1+1,3,none⟩ (.slice A' d.U.length c')).setCell ⟨w.heap.size+1+1+1,4,none⟩ (.int .u64 (d.last:Nat))).setCell ⟨w.heap.size+1+1+1,7,none⟩ (.int .i64 (k:Nat))):=⟨_,rfl⟩
 rw [← hwM]
 have gM:Kp (w.heap.size+1+1+1) w1 wM:=by rw [hwM];exact(((((((Kp.of (Q.refl _)).set 0 _).set 1 _).set 2 _).set 3 _).set 4 _).set 7 _)
 have yM:=gM.bx YY.out (by omega)
 have vM:=V.out.kp (show Calm w1 (w.heap.size+1+1+1) from⟨_,_,ZZ.out,rfl⟩) gM
 have qM:=gM.q QQ.out (by omega)
 obtain⟨wC,hwC⟩:∃ x,x=((((((((wM.setCell ⟨w.heap.size+1+1,0,none⟩ (.string d.name)).setCell ⟨w.heap.size+1+1,1,none⟩ (.int .i64 d.st)).setCell ⟨w.heap.size+1+1,2,none⟩ (.slice A d.L.length c)).setCell ⟨w.heap.size+1+1,3,none⟩ (.slice A' d.U.length c')).setCell ⟨w.heap.size+1+1,4,none⟩ (.int .u64 (d.last:Nat))).setCell ⟨w.heap.size+1+1,5,none⟩ (.int .u64 0)).setCell ⟨w.heap.size+1+1,6,none⟩ (.string ⟨#[]⟩)).setCell ⟨w.heap.size+1+1,7,none⟩ (.int .i64 (k:Nat))):=⟨_,rfl⟩
 rw [← hwC]
 have bC:Bx wC (w.heap.size+1+1) 34 (BL d (.slice A d.L.length c) (.slice A' d.U.length c') (0+0) noS k):=by rw [hwC];have h:=(AQ (y0:=.string d.name) (y1:=.int .i64 d.st) (y2:=.slice A d.L.length c) (y3:=.slice A' d.U.length c') (y4:=.int .u64 (d.last:Nat)) (y5:=.int .u64 0) (y6:=.string ⟨#[]⟩) (y7:=.int .i64 (k:Nat)) yM).1;first | exact h | (simp only [BL,Nat.zero_add,Nat.add_zero];exact h)
 have gC:Kp (w.heap.size+1+1) wM wC:=by rw [hwC];exact(AQ yM).2
 have vC:=vM.kp (show Calm wM (w.heap.size+1+1) from⟨_,_,yM,rfl⟩) gC
 have qC:=gC.q qM (by omega)
 clear hwM hwC gM yM vM qM gC
 obtain⟨⟨v0,v1,v2,v3,v4,v5,v6,v7⟩,-⟩:=AJ (show Bx wC (w.heap.size+1+1) 34 #[.string d.name,.int .i64 d.st,.slice A d.L.length c,.slice A' d.U.length c',.int .u64 (d.last:Nat),.int .u64 (((0+0):Nat):Int),.string noS,.int .i64 (k:Nat)] from bC)
 refine bodyPost_ret (v:=BZ d (.slice A d.L.length c) (.slice A' d.U.length c') (0+0) noS k) ?_ rfl ⟨A,c,A',c',rfl,vC,qC⟩
 simp [results,Tryz.results12,go_sem,v0,v1,v2,v3,v4,v5,v6,v7,BZ,BL]
theorem R8(b:Bkt)(lv uv:Value)(a:Actn)(pv:Value)(w:World)(d:Bkt)(n t:Nat)(s:ByteArray)(k:Nat)(hr:a.kind%9=5)(hF:BC b (N7 b a.key) d n t s k)(ha:EA a)(hkey:a.key.size≤1000)(hPl:a.P.length≤1000)(hn:b.name.size≤1000)(hs:smE b.L)(hu:smL b.U)(hv:BktV w b lv uv)(hp:Pces w w.heap.size pv a.P):
  Calls Tryz.prog 12 #[bkt b lv uv,Bc a pv] w fun e w'=>∃ A c A' c',e=.returned (BZ d (.slice A d.L.length c) (.slice A' d.U.length c') (n+t) s k)∧BktV w' d (.slice A d.L.length c) (.slice A' d.U.length c')∧Q w w':=by
 obtain⟨A1,c1,rfl⟩:=hv.1.form
 obtain⟨A2,c2,rfl⟩:=hv.2.form
 obtain⟨A3,c3,rfl⟩:=hp.form
 obtain⟨hkd,-,hdat,-,hnn,htm,-⟩:=ha
 obtain⟨rfl,rfl⟩:t=0∧s=noS:=BJ (P:=fun _ t s=>t=0∧s=noS) hF ⟨rfl,rfl⟩ (fun _ _ _ _ _ h=>⟨h.2.1,h.2.2⟩)
 have C:=AC fun x (q:Q w x)=>F4 b (.slice A1 b.L.length c1) (.slice A2 b.U.length c2) x a.key d _ _ _ k hF hn hs hu hkey (hv.on q)
 have hk9:(a.kind:Int)%9=5:=by omega
 obtain⟨kd,hkd2⟩:∃ kd:Int,kd=(a.kind:Int):=⟨_,rfl⟩
 have HKT:Hid (kd.tmod 9=5):=AC (by rw [hkd2,Int.tmod_eq_emod_of_nonneg (by omega),hk9])
 have HKD:=AC hkd2
 clear hF hn hs hu hv hp hr hk9 hkd hkey hPl hdat hnn htm
 simp only [bkt] at C
 rw [Bc,acl,bkt]
 rw [← hkd2]
 clear hkd2
 go_enter Tryz.func12,Tryz.ntmps12
 go_upto_region 4 with fail
 rw [HKT.out]
 have hkd3:=HKD.out
 clear HKT HKD
 subst hkd3
 go_wp2_with fail
 refine(C.out _ oq).mono ?_
 rintro e w1 ⟨A,c,A',c',rfl,v1,q1⟩
 have z1:=zyZ.on q1
 have y1:=zyY.on q1
 have V:=AC v1
 have ZZ:=AC z1
 have YY:=AC y1
 have QQ:=AC (oq.trans q1)
 obtain⟨⟨r0,r1,r2,r3,r4,r5,r6,r7⟩,f0,f1,f2,f3,f4,f5,f6,f7⟩:=AJ z1
 obtain⟨⟨s0,s1,s2,s3,s4,s5,s6,s7⟩,g0,g1,g2,g3,g4,g5,g6,g7⟩:=AJ y1
 clear v1 z1 y1 C
 simp only [bkt]
 go_wp2
 (try simp only [Exit.inBlock,Exit.then])
 obtain⟨wM,hwM⟩:∃ x,x=(((((((w1.setCell ⟨w.heap.size+1+1+1,0,none⟩ (.string d.name)).setCell ⟨w.heap.size+1+1+1,1,none⟩ (.int .i64 d.st)).setCell ⟨w.heap.size+1+1+1,2,none⟩ (.slice A d.L.length c)).setCell ⟨w.heap.size+1+1+1,3,none⟩ (.slice A' d.U.length c')).setCell ⟨w.heap.size+1+1+1,4,none⟩ (.int .u64 (d.last:Nat))).setCell ⟨w.heap.size+1+1+1,5,none⟩ (.int .u64 (n:Nat))).setCell ⟨w.heap.size+1+1+1,7,none⟩ (.int .i64 (k:Nat))):=⟨_,rfl⟩
 rw [← hwM]
 have gM:Kp (w.heap.size+1+1+1) w1 wM:=by rw [hwM];exact((((((((Kp.of (Q.refl _)).set 0 _).set 1 _).set 2 _).set 3 _).set 4 _).set 5 _).set 7 _)
 have yM:=gM.bx YY.out (by omega)
 have vM:=V.out.kp (show Calm w1 (w.heap.size+1+1+1) from⟨_,_,ZZ.out,rfl⟩) gM
 have qM:=gM.q QQ.out (by omega)
 obtain⟨wC,hwC⟩:∃ x,x=((((((((wM.setCell ⟨w.heap.size+1+1,0,none⟩ (.string d.name)).setCell ⟨w.heap.size+1+1,1,none⟩ (.int .i64 d.st)).setCell ⟨w.heap.size+1+1,2,none⟩ (.slice A d.L.length c)).setCell ⟨w.heap.size+1+1,3,none⟩ (.slice A' d.U.length c')).setCell ⟨w.heap.size+1+1,4,none⟩ (.int .u64 (d.last:Nat))).setCell ⟨w.heap.size+1+1,5,none⟩ (.int .u64 (n:Nat))).setCell ⟨w.heap.size+1+1,6,none⟩ (.string ⟨#[]⟩)).setCell ⟨w.heap.size+1+1,7,none⟩ (.int .i64 (k:Nat))):=⟨_,rfl⟩
 rw [← hwC]
 have bC:Bx wC (w.heap.size+1+1) 34 (BL d (.slice A d.L.length c) (.slice A' d.U.length c') (n+0) noS k):=by rw [hwC];have h:=(AQ (y0:=.string d.name) (y1:=.int .i64 d.st) (y2:=.slice A d.L.length c) (y3:=.slice A' d.U.length c') (y4:=.int .u64 (d.last:Nat)) (y5:=.int .u64 (n:Nat)) (y6:=.string ⟨#[]⟩) (y7:=.int .i64 (k:Nat)) yM).1;first | exact h | (simp only [BL,Nat.zero_add,Nat.add_zero];exact h)
 have gC:Kp (w.heap.size+1+1) wM wC:=by rw [hwC];exact(AQ yM).2
 have vC:=vM.kp (show Calm wM (w.heap.size+1+1) from⟨_,_,yM,rfl⟩) gC
 have qC:=gC.q qM (by omega)
 clear hwM hwC gM yM vM qM gC
 obtain⟨⟨v0,v1,v2,v3,v4,v5,v6,v7⟩,-⟩:=AJ (show Bx wC (w.heap.size+1+1) 34 #[.string d.name,.int .i64 d.st,.slice A d.L.length c,.slice A' d.U.length c',.int .u64 (d.last:Nat),.int .u64 (((n+0):Nat):Int),.string noS,.int .i64 (k:Nat)] from bC)
 refine bodyPost_ret (v:=BZ d (.slice A d.L.length c) (.slice A' d.U.length c') (n+0) noS k) ?_ rfl ⟨A,c,A',c',rfl,vC,qC⟩
 simp [results,Tryz.results12,go_sem,v0,v1,v2,v3,v4,v5,v6,v7,BZ,BL]
theorem R7(b:Bkt)(lv uv:Value)(a:Actn)(pv:Value)(w:World)(d:Bkt)(n t:Nat)(s:ByteArray)(k:Nat)(hr:a.kind%9=6)(hF:BC b (N1 b a.id ⟨a.n,a.data⟩) d n t s k)(ha:EA a)(hkey:a.key.size≤1000)(hPl:a.P.length≤1000)(hn:b.name.size≤1000)(hs:smE b.L)(hu:smL b.U)(hv:BktV w b lv uv)(hp:Pces w w.heap.size pv a.P):
  Calls Tryz.prog 12 #[bkt b lv uv,Bc a pv] w fun e w'=>∃ A c A' c',e=.returned (BZ d (.slice A d.L.length c) (.slice A' d.U.length c') (n+t) s k)∧BktV w' d (.slice A d.L.length c) (.slice A' d.U.length c')∧Q w w':=by
 obtain⟨A1,c1,rfl⟩:=hv.1.form
 obtain⟨A2,c2,rfl⟩:=hv.2.form
 obtain⟨A3,c3,rfl⟩:=hp.form
 obtain⟨hkd,-,hdat,-,hnn,htm,-⟩:=ha
 have ht:t<4294967296:=BJ (P:=fun _ t _=>t<4294967296) hF (by decide) (fun d n t s k h=>by
  obtain⟨⟨U,hL,-⟩,-⟩:=h
  cases hL with
  | yes=>exact Hz _
  | arg=>decide
  | none=>decide
  | large=>decide)
 have HT:Hid (IntKind.u64.wrap ((t:Nat):Int)=((t:Nat):Int)):=AC (by rw [IntKind.wrap_u64];omega)
 clear ht
 obtain⟨rfl,rfl⟩:n=0∧s=noS:=BJ (P:=fun n _ s=>n=0∧s=noS) hF ⟨rfl,rfl⟩ (fun _ _ _ _ _ h=>⟨h.2.1,h.2.2⟩)
 have C:=AC fun x (q:Q w x)=>Jx b (.slice A1 b.L.length c1) (.slice A2 b.U.length c2) x a.id a.n a.data d _ _ _ k hF hn hs hu ⟨hnn.1,hnn.2,hdat⟩ (hv.on q)
 have hk9:(a.kind:Int)%9=6:=by omega
 obtain⟨kd,hkd2⟩:∃ kd:Int,kd=(a.kind:Int):=⟨_,rfl⟩
 have HKT:Hid (kd.tmod 9=6):=AC (by rw [hkd2,Int.tmod_eq_emod_of_nonneg (by omega),hk9])
 have HKD:=AC hkd2
 clear hF hn hs hu hv hp hr hk9 hkd hkey hPl hdat hnn htm
 simp only [bkt] at C
 rw [Bc,acl,bkt]
 rw [← hkd2]
 clear hkd2
 go_enter Tryz.func12,Tryz.ntmps12
 go_upto_region 4 with fail
 rw [HKT.out]
 have hkd3:=HKD.out
 clear HKT HKD
 subst hkd3
 go_wp2_with fail
 refine(C.out _ oq).mono ?_
 rintro e w1 ⟨A,c,A',c',rfl,v1,q1⟩
 have z1:=zyZ.on q1
 have y1:=zyY.on q1
 have V:=AC v1
 have ZZ:=AC z1
 have YY:=AC y1
 have QQ:=AC (oq.trans q1)
 obtain⟨⟨r0,r1,r2,r3,r4,r5,r6,r7⟩,f0,f1,f2,f3,f4,f5,f6,f7⟩:=AJ z1
 obtain⟨⟨s0,s1,s2,s3,s4,s5,s6,s7⟩,g0,g1,g2,g3,g4,g5,g6,g7⟩:=AJ y1
 clear v1 z1 y1 C q1
 simp only [bkt]
 go_upto_region 17 with fail
 obtain⟨wx,hwx⟩:∃ x,x=(w1.alloc (.cells #[.string d.name,.int .i64 d.st,.slice A d.L.length c,.slice A' d.U.length c',.int .u64 (d.last:Nat)] 26)):=⟨_,rfl⟩
 have qx:Q w1 wx:=by rw [hwx];exact(Q.refl w1).alloc _
 have bx:Bx wx w1.heap.size 26 (bcl d (.slice A d.L.length c) (.slice A' d.U.length c')):=by rw [hwx];exact Bx.new _ _ _
 rw [← hwx]
 clear hwx
 have z1:=ZZ.out.on qx
 have y1:=YY.out.on qx
 have v1:=V.out.on qx
 have q1:=QQ.out.trans qx
 clear V ZZ YY QQ
 have V:=AC v1
 have ZZ:=AC z1
 have YY:=AC y1
 have QQ:=AC q1
 clear r0 r1 r2 r3 r4 r5 r6 r7 f0 f1 f2 f3 f4 f5 f6 f7 s0 s1 s2 s3 s4 s5 s6 s7 g0 g1 g2 g3 g4 g5 g6 g7
 obtain⟨⟨r0,r1,r2,r3,r4,r5,r6,r7⟩,f0,f1,f2,f3,f4,f5,f6,f7⟩:=AJ z1
 obtain⟨⟨s0,s1,s2,s3,s4,s5,s6,s7⟩,g0,g1,g2,g3,g4,g5,g6,g7⟩:=AJ y1
 obtain⟨k0,k1,k2,k3,k4⟩:=AD bx
 clear z1 y1 v1 q1 qx bx
 go_wp2
 (try simp only [Exit.inBlock,Exit.then])
 rw [HT.out]
 obtain⟨wM,hwM⟩:∃ x,x=(((((((wx.setCell ⟨w.heap.size+1+1+1,0,none⟩ (.string d.name)).setCell ⟨w.heap.size+1+1+1,1,none⟩ (.int .i64 d.st)).setCell ⟨w.heap.size+1+1+1,2,none⟩ (.slice A d.L.length c)).setCell ⟨w.heap.size+1+1+1,3,none⟩ (.slice A' d.U.length c')).setCell ⟨w.heap.size+1+1+1,4,none⟩ (.int .u64 (d.last:Nat))).setCell ⟨w.heap.size+1+1+1,5,none⟩ (.int .u64 (t:Nat))).setCell ⟨w.heap.size+1+1+1,7,none⟩ (.int .i64 (k:Nat))):=⟨_,rfl⟩
 rw [← hwM]
 have gM:Kp (w.heap.size+1+1+1) wx wM:=by rw [hwM];exact((((((((Kp.of (Q.refl _)).set 0 _).set 1 _).set 2 _).set 3 _).set 4 _).set 5 _).set 7 _)
 have yM:=gM.bx YY.out (by omega)
 have vM:=V.out.kp (show Calm wx (w.heap.size+1+1+1) from⟨_,_,ZZ.out,rfl⟩) gM
 have qM:=gM.q QQ.out (by omega)
 obtain⟨wC,hwC⟩:∃ x,x=((((((((wM.setCell ⟨w.heap.size+1+1,0,none⟩ (.string d.name)).setCell ⟨w.heap.size+1+1,1,none⟩ (.int .i64 d.st)).setCell ⟨w.heap.size+1+1,2,none⟩ (.slice A d.L.length c)).setCell ⟨w.heap.size+1+1,3,none⟩ (.slice A' d.U.length c')).setCell ⟨w.heap.size+1+1,4,none⟩ (.int .u64 (d.last:Nat))).setCell ⟨w.heap.size+1+1,5,none⟩ (.int .u64 (t:Nat))).setCell ⟨w.heap.size+1+1,6,none⟩ (.string ⟨#[]⟩)).setCell ⟨w.heap.size+1+1,7,none⟩ (.int .i64 (k:Nat))):=⟨_,rfl⟩
 rw [← hwC]
 have bC:Bx wC (w.heap.size+1+1) 34 (BL d (.slice A d.L.length c) (.slice A' d.U.length c') (0+t) noS k):=by rw [hwC];have h:=(AQ (y0:=.string d.name) (y1:=.int .i64 d.st) (y2:=.slice A d.L.length c) (y3:=.slice A' d.U.length c') (y4:=.int .u64 (d.last:Nat)) (y5:=.int .u64 (t:Nat)) (y6:=.string ⟨#[]⟩) (y7:=.int .i64 (k:Nat)) yM).1;first | exact h | (simp only [BL,Nat.zero_add,Nat.add_zero];exact h)
 have gC:Kp (w.heap.size+1+1) wM wC:=by rw [hwC];exact(AQ yM).2
 have vC:=vM.kp (show Calm wM (w.heap.size+1+1) from⟨_,_,yM,rfl⟩) gC
 have qC:=gC.q qM (by omega)
 clear hwM hwC gM yM vM qM gC
 obtain⟨⟨v0,v1,v2,v3,v4,v5,v6,v7⟩,-⟩:=AJ (show Bx wC (w.heap.size+1+1) 34 #[.string d.name,.int .i64 d.st,.slice A d.L.length c,.slice A' d.U.length c',.int .u64 (d.last:Nat),.int .u64 (((0+t):Nat):Int),.string noS,.int .i64 (k:Nat)] from bC)
 refine bodyPost_ret (v:=BZ d (.slice A d.L.length c) (.slice A' d.U.length c') (0+t) noS k) ?_ rfl ⟨A,c,A',c',rfl,vC,qC⟩
 simp [results,Tryz.results12,go_sem,v0,v1,v2,v3,v4,v5,v6,v7,BZ,BL]
theorem R3(b:Bkt)(lv uv:Value)(a:Actn)(pv:Value)(w:World)(d:Bkt)(n t:Nat)(s:ByteArray)(k:Nat)(hr:a.kind%9=7)(hF:BC b (Lc b a.id) d n t s k)(ha:EA a)(hkey:a.key.size≤1000)(hPl:a.P.length≤1000)(hn:b.name.size≤1000)(hs:smE b.L)(hu:smL b.U)(hv:BktV w b lv uv)(hp:Pces w w.heap.size pv a.P):
  Calls Tryz.prog 12 #[bkt b lv uv,Bc a pv] w fun e w'=>∃ A c A' c',e=.returned (BZ d (.slice A d.L.length c) (.slice A' d.U.length c') (n+t) s k)∧BktV w' d (.slice A d.L.length c) (.slice A' d.U.length c')∧Q w w':=by
 obtain⟨A1,c1,rfl⟩:=hv.1.form
 obtain⟨A2,c2,rfl⟩:=hv.2.form
 obtain⟨A3,c3,rfl⟩:=hp.form
 obtain⟨hkd,-,hdat,-,hnn,htm,-⟩:=ha
 obtain⟨rfl,rfl,rfl⟩:n=0∧t=0∧s=noS:=BJ (P:=fun n t s=>n=0∧t=0∧s=noS) hF ⟨rfl,rfl,rfl⟩ (fun _ _ _ _ _ h=>⟨h.2.1,h.2.2.1,h.2.2.2⟩)
 have C:=AC fun x (q:Q w x)=>LY b (.slice A1 b.L.length c1) (.slice A2 b.U.length c2) x a.id d _ _ _ k hF hn hs hu  (hv.on q)
 have hk9:(a.kind:Int)%9=7:=by omega
 obtain⟨kd,hkd2⟩:∃ kd:Int,kd=(a.kind:Int):=⟨_,rfl⟩
 have HKT:Hid (kd.tmod 9=7):=AC (by rw [hkd2,Int.tmod_eq_emod_of_nonneg (by omega),hk9])
 have HKD:=AC hkd2
 clear hF hn hs hu hv hp hr hk9 hkd hkey hPl hdat hnn htm
 simp only [bkt] at C
 rw [Bc,acl,bkt]
 rw [← hkd2]
 clear hkd2
 go_enter Tryz.func12,Tryz.ntmps12
 go_upto_region 4 with fail
 rw [HKT.out]
 have hkd3:=HKD.out
 clear HKT HKD
 subst hkd3
 go_wp2_with fail
 refine(C.out _ oq).mono ?_
 rintro e w1 ⟨A,c,A',c',rfl,v1,q1⟩
 have z1:=zyZ.on q1
 have y1:=zyY.on q1
 have V:=AC v1
 have ZZ:=AC z1
 have YY:=AC y1
 have QQ:=AC (oq.trans q1)
 obtain⟨⟨r0,r1,r2,r3,r4,r5,r6,r7⟩,f0,f1,f2,f3,f4,f5,f6,f7⟩:=AJ z1
 obtain⟨⟨s0,s1,s2,s3,s4,s5,s6,s7⟩,g0,g1,g2,g3,g4,g5,g6,g7⟩:=AJ y1
 clear v1 z1 y1 C
 simp only [bkt]
 go_wp2
 (try simp only [Exit.inBlock,Exit.then])
 obtain⟨wM,hwM⟩:∃ x,x=((((((w1.setCell ⟨w.heap.size+1+1+1,0,none⟩ (.string d.name)).setCell ⟨w.heap.size+1+1+1,1,none⟩ (.int .i64 d.st)).setCell ⟨w.heap.size+1+1+1,2,none⟩ (.slice A d.L.length c)).setCell ⟨w.heap.size+1+1+1,3,none⟩ (.slice A' d.U.length c')).setCell ⟨w.heap.size+1+1+1,4,none⟩ (.int .u64 (d.last:Nat))).setCell ⟨w.heap.size+1+1+1,7,none⟩ (.int .i64 (k:Nat))):=⟨_,rfl⟩
 rw [← hwM]
 have gM:Kp (w.heap.size+1+1+1) w1 wM:=by rw [hwM];exact(((((((Kp.of (Q.refl _)).set 0 _).set 1 _).set 2 _).set 3 _).set 4 _).set 7 _)
 have yM:=gM.bx YY.out (by omega)
 have vM:=V.out.kp (show Calm w1 (w.heap.size+1+1+1) from⟨_,_,ZZ.out,rfl⟩) gM
 have qM:=gM.q QQ.out (by omega)
 obtain⟨wC,hwC⟩:∃ x,x=((((((((wM.setCell ⟨w.heap.size+1+1,0,none⟩ (.string d.name)).setCell ⟨w.heap.size+1+1,1,none⟩ (.int .i64 d.st)).setCell ⟨w.heap.size+1+1,2,none⟩ (.slice A d.L.length c)).setCell ⟨w.heap.size+1+1,3,none⟩ (.slice A' d.U.length c')).setCell ⟨w.heap.size+1+1,4,none⟩ (.int .u64 (d.last:Nat))).setCell ⟨w.heap.size+1+1,5,none⟩ (.int .u64 0)).setCell ⟨w.heap.size+1+1,6,none⟩ (.string ⟨#[]⟩)).setCell ⟨w.heap.size+1+1,7,none⟩ (.int .i64 (k:Nat))):=⟨_,rfl⟩
 rw [← hwC]
 have bC:Bx wC (w.heap.size+1+1) 34 (BL d (.slice A d.L.length c) (.slice A' d.U.length c') (0+0) noS k):=by rw [hwC];have h:=(AQ (y0:=.string d.name) (y1:=.int .i64 d.st) (y2:=.slice A d.L.length c) (y3:=.slice A' d.U.length c') (y4:=.int .u64 (d.last:Nat)) (y5:=.int .u64 0) (y6:=.string ⟨#[]⟩) (y7:=.int .i64 (k:Nat)) yM).1;first | exact h | (simp only [BL,Nat.zero_add,Nat.add_zero];exact h)
 have gC:Kp (w.heap.size+1+1) wM wC:=by rw [hwC];exact(AQ yM).2
 have vC:=vM.kp (show Calm wM (w.heap.size+1+1) from⟨_,_,yM,rfl⟩) gC
 have qC:=gC.q qM (by omega)
 clear hwM hwC gM yM vM qM gC
 obtain⟨⟨v0,v1,v2,v3,v4,v5,v6,v7⟩,-⟩:=AJ (show Bx wC (w.heap.size+1+1) 34 #[.string d.name,.int .i64 d.st,.slice A d.L.length c,.slice A' d.U.length c',.int .u64 (d.last:Nat),.int .u64 (((0+0):Nat):Int),.string noS,.int .i64 (k:Nat)] from bC)
 refine bodyPost_ret (v:=BZ d (.slice A d.L.length c) (.slice A' d.U.length c') (0+0) noS k) ?_ rfl ⟨A,c,A',c',rfl,vC,qC⟩
 simp [results,Tryz.results12,go_sem,v0,v1,v2,v3,v4,v5,v6,v7,BZ,BL]
theorem R1(b:Bkt)(lv uv:Value)(a:Actn)(pv:Value)(w:World)(d:Bkt)(n t:Nat)(s:ByteArray)(k:Nat)(hr:a.kind%9=8)(hF:BC b (Nz b a.id a.P a.tm) d n t s k)(ha:EA a)(hkey:a.key.size≤1000)(hPl:a.P.length≤1000)(hn:b.name.size≤1000)(hs:smE b.L)(hu:smL b.U)(hv:BktV w b lv uv)(hp:Pces w w.heap.size pv a.P):
  Calls Tryz.prog 12 #[bkt b lv uv,Bc a pv] w fun e w'=>∃ A c A' c',e=.returned (BZ d (.slice A d.L.length c) (.slice A' d.U.length c') (n+t) s k)∧BktV w' d (.slice A d.L.length c) (.slice A' d.U.length c')∧Q w w':=by
 obtain⟨A1,c1,rfl⟩:=hv.1.form
 obtain⟨A2,c2,rfl⟩:=hv.2.form
 obtain⟨A3,c3,rfl⟩:=hp.form
 obtain⟨hkd,-,hdat,-,hnn,htm,-⟩:=ha
 obtain rfl:t=0:=BJ (P:=fun _ t _=>t=0) hF rfl (fun _ _ _ _ _ h=>h.2)
 have C:=AC fun x (q:Q w x)=>F3 b (.slice A1 b.L.length c1) (.slice A2 b.U.length c2) x a.id a.P A3 c3 a.tm d _ _ _ k hF hn hs hu hPl htm.1 htm.2 (hp.on q) (hv.on q)
 have hk9:(a.kind:Int)%9=8:=by omega
 obtain⟨kd,hkd2⟩:∃ kd:Int,kd=(a.kind:Int):=⟨_,rfl⟩
 have HKT:Hid (kd.tmod 9=8):=AC (by rw [hkd2,Int.tmod_eq_emod_of_nonneg (by omega),hk9])
 have HKD:=AC hkd2
 clear hF hn hs hu hv hp hr hk9 hkd hkey hPl hdat hnn htm
 simp only [bkt] at C
 rw [Bc,acl,bkt]
 rw [← hkd2]
 clear hkd2
 go_enter Tryz.func12,Tryz.ntmps12
 go_upto_region 4 with fail
 rw [HKT.out]
 have hkd3:=HKD.out
 clear HKT HKD
 subst hkd3
 go_wp2_with fail
 refine(C.out _ oq).mono ?_
 rintro e w1 ⟨A,c,A',c',rfl,v1,q1⟩
 have z1:=zyZ.on q1
 have y1:=zyY.on q1
 have V:=AC v1
 have ZZ:=AC z1
 have YY:=AC y1
 have QQ:=AC (oq.trans q1)
 obtain⟨⟨r0,r1,r2,r3,r4,r5,r6,r7⟩,f0,f1,f2,f3,f4,f5,f6,f7⟩:=AJ z1
 obtain⟨⟨s0,s1,s2,s3,s4,s5,s6,s7⟩,g0,g1,g2,g3,g4,g5,g6,g7⟩:=AJ y1
 clear v1 z1 y1 C
 simp only [bkt]
 go_wp2
 (try simp only [Exit.inBlock,Exit.then])
 obtain⟨wM,hwM⟩:∃ x,x=((((((((w1.setCell ⟨w.heap.size+1+1+1,0,none⟩ (.string d.name)).setCell ⟨w.heap.size+1+1+1,1,none⟩ (.int .i64 d.st)).setCell ⟨w.heap.size+1+1+1,2,none⟩ (.slice A d.L.length c)).setCell ⟨w.heap.size+1+1+1,3,none⟩ (.slice A' d.U.length c')).setCell ⟨w.heap.size+1+1+1,4,none⟩ (.int .u64 (d.last:Nat))).setCell ⟨w.heap.size+1+1+1,5,none⟩ (.int .u64 (n:Nat))).setCell ⟨w.heap.size+1+1+1,6,none⟩ (.string s)).setCell ⟨w.heap.size+1+1+1,7,none⟩ (.int .i64 (k:Nat))):=⟨_,rfl⟩
 rw [← hwM]
 have gM:Kp (w.heap.size+1+1+1) w1 wM:=by rw [hwM];exact(((((((((Kp.of (Q.refl _)).set 0 _).set 1 _).set 2 _).set 3 _).set 4 _).set 5 _).set 6 _).set 7 _)
 have yM:=gM.bx YY.out (by omega)
 have vM:=V.out.kp (show Calm w1 (w.heap.size+1+1+1) from⟨_,_,ZZ.out,rfl⟩) gM
 have qM:=gM.q QQ.out (by omega)
 obtain⟨wC,hwC⟩:∃ x,x=((((((((wM.setCell ⟨w.heap.size+1+1,0,none⟩ (.string d.name)).setCell ⟨w.heap.size+1+1,1,none⟩ (.int .i64 d.st)).setCell ⟨w.heap.size+1+1,2,none⟩ (.slice A d.L.length c)).setCell ⟨w.heap.size+1+1,3,none⟩ (.slice A' d.U.length c')).setCell ⟨w.heap.size+1+1,4,none⟩ (.int .u64 (d.last:Nat))).setCell ⟨w.heap.size+1+1,5,none⟩ (.int .u64 (n:Nat))).setCell ⟨w.heap.size+1+1,6,none⟩ (.string s)).setCell ⟨w.heap.size+1+1,7,none⟩ (.int .i64 (k:Nat))):=⟨_,rfl⟩
 rw [← hwC]
 have bC:Bx wC (w.heap.size+1+1) 34 (BL d (.slice A d.L.length c) (.slice A' d.U.length c') (n+0) s k):=by rw [hwC];have h:=(AQ (y0:=.string d.name) (y1:=.int .i64 d.st) (y2:=.slice A d.L.length c) (y3:=.slice A' d.U.length c') (y4:=.int .u64 (d.last:Nat)) (y5:=.int .u64 (n:Nat)) (y6:=.string s) (y7:=.int .i64 (k:Nat)) yM).1;first | exact h | (simp only [BL,Nat.zero_add,Nat.add_zero];exact h)
 have gC:Kp (w.heap.size+1+1) wM wC:=by rw [hwC];exact(AQ yM).2
 have vC:=vM.kp (show Calm wM (w.heap.size+1+1) from⟨_,_,yM,rfl⟩) gC
 have qC:=gC.q qM (by omega)
 clear hwM hwC gM yM vM qM gC
 obtain⟨⟨v0,v1,v2,v3,v4,v5,v6,v7⟩,-⟩:=AJ (show Bx wC (w.heap.size+1+1) 34 #[.string d.name,.int .i64 d.st,.slice A d.L.length c,.slice A' d.U.length c',.int .u64 (d.last:Nat),.int .u64 (((n+0):Nat):Int),.string s,.int .i64 (k:Nat)] from bC)
 refine bodyPost_ret (v:=BZ d (.slice A d.L.length c) (.slice A' d.U.length c') (n+0) s k) ?_ rfl ⟨A,c,A',c',rfl,vC,qC⟩
 simp [results,Tryz.results12,go_sem,v0,v1,v2,v3,v4,v5,v6,v7,BZ,BL]
theorem TP(b:Bkt)(lv uv:Value)(a:Actn)(pv:Value)(w:World)(d:Bkt)(n t:Nat)(s:ByteArray)(k:Nat)(hF:BC b (DoR b a) d n t s k)(ha:EA a)(hkey:a.key.size≤1000)(hPl:a.P.length≤1000)(hn:b.name.size≤1000)(hs:smE b.L)(hu:smL b.U)(hv:BktV w b lv uv)(hp:Pces w w.heap.size pv a.P):
  Calls Tryz.prog 12 #[bkt b lv uv,Bc a pv] w fun e w'=>∃ A c A' c',e=.returned (BZ d (.slice A d.L.length c) (.slice A' d.U.length c') (n+t) s k)∧BktV w' d (.slice A d.L.length c) (.slice A' d.U.length c')∧Q w w':=by
 have h9:a.kind%9=0∨a.kind%9=1∨a.kind%9=2∨a.kind%9=3∨a.kind%9=4∨a.kind%9=5∨a.kind%9=6∨a.kind%9=7∨a.kind%9=8:=by omega
 rcases h9 with h | h | h | h | h | h | h | h | h
 ·rw [QK h] at hF
  exact SH b lv uv a pv w d n t s k h hF ha hkey hPl hn hs hu hv hp
 ·rw [QJ h] at hF
  exact SG b lv uv a pv w d n t s k h hF ha hkey hPl hn hs hu hv hp
 ·rw [QI h] at hF
  exact SF b lv uv a pv w d n t s k h hF ha hkey hPl hn hs hu hv hp
 ·rw [QH h] at hF
  exact SC b lv uv a pv w d n t s k h hF ha hkey hPl hn hs hu hv hp
 ·rw [QG h] at hF
  exact R9 b lv uv a pv w d n t s k h hF ha hkey hPl hn hs hu hv hp
 ·rw [QF h] at hF
  exact R8 b lv uv a pv w d n t s k h hF ha hkey hPl hn hs hu hv hp
 ·rw [QE h] at hF
  exact R7 b lv uv a pv w d n t s k h hF ha hkey hPl hn hs hu hv hp
 ·rw [QD h] at hF
  exact R3 b lv uv a pv w d n t s k h hF ha hkey hPl hn hs hu hv hp
 ·rw [QC h] at hF
  exact R1 b lv uv a pv w d n t s k h hF ha hkey hPl hn hs hu hv hp
end
section
open Go.ChangeShapes Go.WideShapes Go.ChangeAt Go.RowKit Go.Shelf
theorem Se{α:Type}{cs:Array α}(h:cs.size=5):∃ a b c d e,cs=#[a,b,c,d,e]:=by
 obtain⟨l⟩:=cs
 match l,h with
 | [a,b,c,d,e],_=>exact⟨a,b,c,d,e,rfl⟩
theorem Sd{α:Type}{cs:Array α}(h:cs.size=7):∃ a b c d e f g,cs=#[a,b,c,d,e,f,g]:=by
 obtain⟨l⟩:=cs
 match l,h with
 | [a,b,c,d,e,f,g],_=>exact⟨a,b,c,d,e,f,g,rfl⟩
def InB(W:World)(b:Bkt)(lv uv:Value):Prop:=BktV W b lv uv∧b.name.size≤maxLen∧b.L.length≤maxLen∧b.U.length≤maxLen∧b.last<18446744073709551616∧-9223372036854775808≤b.st∧b.st≤9223372036854775807
theorem PM{H:Type}{enc:TypeId×Value→H}{W:World}{b0:Nat}{v:Value}{d:DataW H}{p:List MemPlace}(hv:Value.okWide Tryz.prog W .any b0 26 v)
  (h:DataW.Trod enc Tryz.prog W 0 (fun _=>true) true 26 v d p) :
  ∃ (b:Bkt) (lv uv:Value),v=bkt b lv uv∧InB W b lv uv:=by
 obtain⟨cs,rfl,hsz⟩:=okWide_struct Tryz.underlying26 hv
 have h4:Tryz.prog.cellsOf 26=5:=by kernel_rfl
 rw [h4] at hsz
 obtain⟨v0,v1,v2,v3,v4,rfl⟩:=Se hsz
 obtain⟨fuel,hf⟩:=h
 obtain⟨xs,n,_,_,hl0,hlen,hg⟩:=DataW.trod_struct Tryz.underlying26 hf
 have hlen5:xs.length=5:=hlen
 have c0:Tryz.prog.cellsOf 9=1:=by kernel_rfl
 have c1:Tryz.prog.cellsOf 3=1:=by kernel_rfl
 have c2:Tryz.prog.cellsOf 22=1:=by kernel_rfl
 have c3:Tryz.prog.cellsOf 23=1:=by kernel_rfl
 have c4:Tryz.prog.cellsOf 24=1:=by kernel_rfl
 have g0:=hg 0 _ rfl
 have g1:=hg 1 _ rfl
 have g2:=hg 2 _ rfl
 have g3:=hg 3 _ rfl
 have g4:=hg 4 _ rfl
 rw [List.getElem?_eq_getElem (by omega)] at g0 g1 g2 g3 g4
 simp [Value.cells,c0,c1,c2,c3,c4] at g0 g1 g2 g3 g4
 obtain⟨s0,e0,-,w0⟩:=DataW.trod_string Tryz.underlying9 g0
 obtain⟨s1,e1,-,w1⟩:=DataW.trod_int Tryz.underlying3 g1
 obtain⟨L,hL,mL⟩:=NJ g2
 obtain⟨U,hU,mU⟩:=Ls g3
 obtain⟨s4,e4,-,w4⟩:=DataW.trod_int Tryz.underlying24 g4
 simp at e0 e1 e4
 subst e0 e1 e4
 obtain⟨i',rfl,hi'⟩:=OQ w4
 exact⟨⟨s0,s1,L,U,i'⟩,v2,v3,rfl,⟨hL,hU⟩,w0,mL,mU,hi',(OR w1).1,(OR w1).2⟩
theorem PN{H:Type}{enc:TypeId×Value→H}{W:World}{b0:Nat}{v:Value}{d:DataW H}{p:List MemPlace}(hv:Value.okWide Tryz.prog W .any b0 29 v)
  (h:DataW.Trod enc Tryz.prog W 0 (fun _=>true) true 29 v d p) :
  ∃ (a:Actn) (pv:Value),v=Bc a pv∧EA a∧Pces W W.heap.size pv a.P:=by
 obtain⟨cs,rfl,hsz⟩:=okWide_struct Tryz.underlying29 hv
 have h4:Tryz.prog.cellsOf 29=7:=by kernel_rfl
 rw [h4] at hsz
 obtain⟨v0,v1,v2,v3,v4,v5,v6,rfl⟩:=Sd hsz
 obtain⟨fuel,hf⟩:=h
 obtain⟨xs,n,_,_,hl0,hlen,hg⟩:=DataW.trod_struct Tryz.underlying29 hf
 have hlen7:xs.length=7:=hlen
 have c0:Tryz.prog.cellsOf 9=1:=by kernel_rfl
 have c1:Tryz.prog.cellsOf 3=1:=by kernel_rfl
 have c2:Tryz.prog.cellsOf 5=1:=by kernel_rfl
 have c3:Tryz.prog.cellsOf 27=1:=by kernel_rfl
 have c4:Tryz.prog.cellsOf 24=1:=by kernel_rfl
 have g0:=hg 0 _ rfl
 have g1:=hg 1 _ rfl
 have g2:=hg 2 _ rfl
 have g3:=hg 3 _ rfl
 have g4:=hg 4 _ rfl
 have g5:=hg 5 _ rfl
 have g6:=hg 6 _ rfl
 rw [List.getElem?_eq_getElem (by omega)] at g0 g1 g2 g3 g4 g5 g6
 simp [Value.cells,c0,c1,c2,c3,c4] at g0 g1 g2 g3 g4 g5 g6
 obtain⟨s0,e0,-,w0⟩:=DataW.trod_int Tryz.underlying5 g0
 obtain⟨s1,e1,-,w1⟩:=DataW.trod_string Tryz.underlying9 g1
 obtain⟨s2,e2,-,w2⟩:=DataW.trod_string Tryz.underlying9 g2
 obtain⟨s3,e3,-,w3⟩:=DataW.trod_int Tryz.underlying24 g3
 obtain⟨s4,e4,-,w4⟩:=DataW.trod_int Tryz.underlying3 g4
 obtain⟨s5,e5,-,w5⟩:=DataW.trod_int Tryz.underlying3 g5
 simp at e0 e1 e2 e3 e4 e5
 subst e0 e1 e2 e3 e4 e5
 obtain⟨i',rfl,hi'⟩:=OQ w3
 obtain⟨k',rfl,hk'⟩:∃ n:Nat,s0=n∧n<256:=by
  have h2:0≤s0∧s0≤255:=by simpa [Lit.wf,IntKind.min,IntKind.max,IntKind.signed,IntKind.bits] using w0
  exact⟨s0.toNat,by omega,by omega⟩
 obtain⟨P,hP,mP⟩:=MU g6
 exact⟨⟨k',s1,s2,i',s4,s5,P⟩,v6,rfl,⟨hk',w1,w2,hi',OR w4,OR w5,mP⟩,hP⟩
end
end Go.Proofs.YtjjlbbfhmpbneaaGreat
