/-
  Contract of the statements' Own: the document's answer to what is done.
-/
import Derived.Test.YtjjlbbfhmpbneaaGreatLz
import Derived.Test.YtjjlbbfhmpbneaaGreatLzb
import Derived.Test.YtjjlbbfhmpbneaaGreatLzc
import Derived.Test.YtjjlbbfhmpbneaaGreatLzd
namespace Go.Proofs.YtjjlbbfhmpbneaaGreat
open Lib renaming hid → AC
set_option maxHeartbeats 16000000
set_option maxRecDepth 100000
set_option linter.unusedVariables false
set_option linter.unusedSimpArgs false
section
open Go.ChangeShapes Go.WideShapes Go.ChangeAt Go.RowKit Go.Shelf
theorem PK(b:Bkt)(lv uv:Value)(a:Actn)(pv:Value)(w:World)(d:Bkt)(n t:Nat)(s:ByteArray)(k:Nat)(hr:a.kind%9=0)(hF:BC b (ID b a.key a.data a.tm) d n t s k)(ha:EA a)(hkey:a.key.size≤1000)(hPl:a.P.length≤1000)(hn:b.name.size≤1000)(hs:smE b.L)(hu:smL b.U)(hv:BktV w b lv uv)(hp:Pces w w.heap.size pv a.P):
  Calls Tryz.prog 13 #[bkt b lv uv,Bc a pv] w fun e w'=>∃ A c A' c',e=.returned (BZ d (.slice A d.L.length c) (.slice A' d.U.length c') (n+t) s k)∧BktV w' d (.slice A d.L.length c) (.slice A' d.U.length c')∧Q w w':=by
 obtain⟨A1,c1,rfl⟩:=hv.1.form
 obtain⟨A2,c2,rfl⟩:=hv.2.form
 obtain⟨A3,c3,rfl⟩:=hp.form
 obtain⟨hkd,-,hdat,-,hnn,htm,-⟩:=ha
 obtain⟨rfl,rfl⟩:t=0∧s=noS:=BJ (P:=fun _ t s=>t=0∧s=noS) hF ⟨rfl,rfl⟩ (fun _ _ _ _ _ h=>⟨h.2.1,h.2.2⟩)
 have C:=AC fun x (q:Q w x)=>Dj b (.slice A1 b.L.length c1) (.slice A2 b.U.length c2) x a.key a.data a.tm d _ _ _ k hF hn hs hu hkey hdat htm.1 htm.2 (hv.on q)
 have hk9:(a.kind:Int)%9=0:=by omega
 obtain⟨kd,hkd2⟩:∃ kd:Int,kd=(a.kind:Int):=⟨_,rfl⟩
 have HKT:Hid (kd.tmod 9=0):=AC (by rw [hkd2,Int.tmod_eq_emod_of_nonneg (by omega),hk9])
 have HKD:=AC hkd2
 clear hF hn hs hu hv hp hr hk9 hkd hkey hPl hdat hnn htm
 simp only [bkt] at C
 rw [Bc,acl,bkt]
 rw [← hkd2]
 clear hkd2
 go_enter Tryz.func13,Tryz.ntmps13
 go_upto_region 5 with fail
 rw [HKT.out]
 have hkd3:=HKD.out
 clear HKT HKD
 subst hkd3
 go_wp2_with fail
 refine(C.out _ oq).mono ?_
 rintro e w1 ⟨A,c,A',c',rfl,v1,q1⟩
 have z1:=zyZ.on q1
 have y1:=zyY.on q1
 have V:=AC v1
 have ZZ:=AC z1
 have YY:=AC y1
 have QQ:=AC (oq.trans q1)
 obtain⟨⟨r0,r1,r2,r3,r4,r5,r6,r7⟩,f0,f1,f2,f3,f4,f5,f6,f7⟩:=AJ z1
 obtain⟨⟨s0,s1,s2,s3,s4,s5,s6,s7⟩,g0,g1,g2,g3,g4,g5,g6,g7⟩:=AJ y1
 clear v1 z1 y1 C
 simp only [bkt]
 go_wp2
 (try simp only [Exit.inBlock,Exit.then])
 obtain⟨wM,hwM⟩:∃ x,x=(((((((w1.setCell ⟨w.heap.size+1+1+1,0,none⟩ (.string d.name)).setCell ⟨w.heap.size+1+1+1,1,none⟩ (.int .i64 d.st)).setCell ⟨w.heap.size+1+1+1,2,none⟩ (.slice A d.L.length c)).setCell ⟨w.heap.size+1+1+1,3,none⟩ (.slice A' d.U.length c')).setCell ⟨w.heap.size+1+1+1,4,none⟩ (.int .u64 (d.last:Nat))).setCell ⟨w.heap.size+1+1+1,5,none⟩ (.int .u64 (n:Nat))).setCell ⟨w.heap.size+1+1+1,7,none⟩ (.int .i64 (k:Nat))):=⟨_,rfl⟩
 rw [← hwM]
 have gM:Kp (w.heap.size+1+1+1) w1 wM:=by rw [hwM];exact((((((((Kp.of (Q.refl _)).set 0 _).set 1 _).set 2 _).set 3 _).set 4 _).set 5 _).set 7 _)
 have yM:=gM.bx YY.out (by omega)
 have vM:=V.out.kp (show Calm w1 (w.heap.size+1+1+1) from⟨_,_,ZZ.out,rfl⟩) gM
 have qM:=gM.q QQ.out (by omega)
 obtain⟨wC,hwC⟩:∃ x,x=((((((((wM.setCell ⟨w.heap.size+1+1,0,none⟩ (.string d.name)).setCell ⟨w.heap.size+1+1,1,none⟩ (.int .i64 d.st)).setCell ⟨w.heap.size+1+1,2,none⟩ (.slice A d.L.length c)).setCell ⟨w.heap.size+1+1,3,none⟩ (.slice A' d.U.length c')).setCell ⟨w.heap.size+1+1,4,none⟩ (.int .u64 (d.last:Nat))).setCell ⟨w.heap.size+1+1,5,none⟩ (.int .u64 (n:Nat))).setCell ⟨w.heap.size+1+1,6,none⟩ (.string ⟨#[]⟩)).setCell ⟨w.heap.size+1+1,7,none⟩ (.int .i64 (k:Nat))):=⟨_,rfl⟩
 rw [← hwC]
 have bC:Bx wC (w.heap.size+1+1) 34 (BL d (.slice A d.L.length c) (.slice A' d.U.length c') (n+0) noS k):=by rw [hwC];have h:=(AQ (y0:=.string d.name) (y1:=.int .i64 d.st) (y2:=.slice A d.L.length c) (y3:=.slice A' d.U.length c') (y4:=.int .u64 (d.last:Nat)) (y5:=.int .u64 (n:Nat)) (y6:=.string ⟨#[]⟩) (y7:=.int .i64 (k:Nat)) yM).1;first | exact h | (simp only [BL,Nat.zero_add,Nat.add_zero];exact h)
 have gC:Kp (w.heap.size+1+1) wM wC:=by rw [hwC];exact(AQ yM).2
 have vC:=vM.kp (show Calm wM (w.heap.size+1+1) from⟨_,_,yM,rfl⟩) gC
 have qC:=gC.q qM (by omega)
 clear hwM hwC gM yM vM qM gC
 obtain⟨⟨v0,v1,v2,v3,v4,v5,v6,v7⟩,-⟩:=AJ (show Bx wC (w.heap.size+1+1) 34 #[.string d.name,.int .i64 d.st,.slice A d.L.length c,.slice A' d.U.length c',.int .u64 (d.last:Nat),.int .u64 (((n+0):Nat):Int),.string noS,.int .i64 (k:Nat)] from bC)
 refine bodyPost_ret (v:=BZ d (.slice A d.L.length c) (.slice A' d.U.length c') (n+0) noS k) ?_ rfl ⟨A,c,A',c',rfl,vC,qC⟩
 simp [results,Tryz.results13,go_sem,v0,v1,v2,v3,v4,v5,v6,v7,BZ,BL]
theorem PJ(b:Bkt)(lv uv:Value)(a:Actn)(pv:Value)(w:World)(d:Bkt)(n t:Nat)(s:ByteArray)(k:Nat)(hr:a.kind%9=1)(hF:BC b (ID b a.key a.data a.tm) d n t s k)(ha:EA a)(hkey:a.key.size≤1000)(hPl:a.P.length≤1000)(hn:b.name.size≤1000)(hs:smE b.L)(hu:smL b.U)(hv:BktV w b lv uv)(hp:Pces w w.heap.size pv a.P):
  Calls Tryz.prog 13 #[bkt b lv uv,Bc a pv] w fun e w'=>∃ A c A' c',e=.returned (BZ d (.slice A d.L.length c) (.slice A' d.U.length c') (n+t) s k)∧BktV w' d (.slice A d.L.length c) (.slice A' d.U.length c')∧Q w w':=by
 obtain⟨A1,c1,rfl⟩:=hv.1.form
 obtain⟨A2,c2,rfl⟩:=hv.2.form
 obtain⟨A3,c3,rfl⟩:=hp.form
 obtain⟨hkd,-,hdat,-,hnn,htm,-⟩:=ha
 obtain⟨rfl,rfl⟩:t=0∧s=noS:=BJ (P:=fun _ t s=>t=0∧s=noS) hF ⟨rfl,rfl⟩ (fun _ _ _ _ _ h=>⟨h.2.1,h.2.2⟩)
 have C:=AC fun x (q:Q w x)=>Dj b (.slice A1 b.L.length c1) (.slice A2 b.U.length c2) x a.key a.data a.tm d _ _ _ k hF hn hs hu hkey hdat htm.1 htm.2 (hv.on q)
 have hk9:(a.kind:Int)%9=1:=by omega
 obtain⟨kd,hkd2⟩:∃ kd:Int,kd=(a.kind:Int):=⟨_,rfl⟩
 have HKT:Hid (kd.tmod 9=1):=AC (by rw [hkd2,Int.tmod_eq_emod_of_nonneg (by omega),hk9])
 have HKD:=AC hkd2
 clear hF hn hs hu hv hp hr hk9 hkd hkey hPl hdat hnn htm
 simp only [bkt] at C
 rw [Bc,acl,bkt]
 rw [← hkd2]
 clear hkd2
 go_enter Tryz.func13,Tryz.ntmps13
 go_upto_region 5 with fail
 rw [HKT.out]
 have hkd3:=HKD.out
 clear HKT HKD
 subst hkd3
 go_wp2_with fail
 refine(C.out _ oq).mono ?_
 rintro e w1 ⟨A,c,A',c',rfl,v1,q1⟩
 have z1:=zyZ.on q1
 have y1:=zyY.on q1
 have V:=AC v1
 have ZZ:=AC z1
 have YY:=AC y1
 have QQ:=AC (oq.trans q1)
 obtain⟨⟨r0,r1,r2,r3,r4,r5,r6,r7⟩,f0,f1,f2,f3,f4,f5,f6,f7⟩:=AJ z1
 obtain⟨⟨s0,s1,s2,s3,s4,s5,s6,s7⟩,g0,g1,g2,g3,g4,g5,g6,g7⟩:=AJ y1
 clear v1 z1 y1 C
 simp only [bkt]
 go_wp2
 (try simp only [Exit.inBlock,Exit.then])
 obtain⟨wM,hwM⟩:∃ x,x=(((((((w1.setCell ⟨w.heap.size+1+1+1,0,none⟩ (.string d.name)).setCell ⟨w.heap.size+1+1+1,1,none⟩ (.int .i64 d.st)).setCell ⟨w.heap.size+1+1+1,2,none⟩ (.slice A d.L.length c)).setCell ⟨w.heap.size+1+1+1,3,none⟩ (.slice A' d.U.length c')).setCell ⟨w.heap.size+1+1+1,4,none⟩ (.int .u64 (d.last:Nat))).setCell ⟨w.heap.size+1+1+1,5,none⟩ (.int .u64 (n:Nat))).setCell ⟨w.heap.size+1+1+1,7,none⟩ (.int .i64 (k:Nat))):=⟨_,rfl⟩
 rw [← hwM]
 have gM:Kp (w.heap.size+1+1+1) w1 wM:=by rw [hwM];exact((((((((Kp.of (Q.refl _)).set 0 _).set 1 _).set 2 _).set 3 _).set 4 _).set 5 _).set 7 _)
 have yM:=gM.bx YY.out (by omega)
 have vM:=V.out.kp (show Calm w1 (w.heap.size+1+1+1) from⟨_,_,ZZ.out,rfl⟩) gM
 have qM:=gM.q QQ.out (by omega)
 obtain⟨wC,hwC⟩:∃ x,x=((((((((wM.setCell ⟨w.heap.size+1+1,0,none⟩ (.string d.name)).setCell ⟨w.heap.size+1+1,1,none⟩ (.int .i64 d.st)).setCell ⟨w.heap.size+1+1,2,none⟩ (.slice A d.L.length c)).setCell ⟨w.heap.size+1+1,3,none⟩ (.slice A' d.U.length c')).setCell ⟨w.heap.size+1+1,4,none⟩ (.int .u64 (d.last:Nat))).setCell ⟨w.heap.size+1+1,5,none⟩ (.int .u64 (n:Nat))).setCell ⟨w.heap.size+1+1,6,none⟩ (.string ⟨#[]⟩)).setCell ⟨w.heap.size+1+1,7,none⟩ (.int .i64 (k:Nat))):=⟨_,rfl⟩
 rw [← hwC]
 have bC:Bx wC (w.heap.size+1+1) 34 (BL d (.slice A d.L.length c) (.slice A' d.U.length c') (n+0) noS k):=by rw [hwC];have h:=(AQ (y0:=.string d.name) (y1:=.int .i64 d.st) (y2:=.slice A d.L.length c) (y3:=.slice A' d.U.length c') (y4:=.int .u64 (d.last:Nat)) (y5:=.int .u64 (n:Nat)) (y6:=.string ⟨#[]⟩) (y7:=.int .i64 (k:Nat)) yM).1;first | exact h | (simp only [BL,Nat.zero_add,Nat.add_zero];exact h)
 have gC:Kp (w.heap.size+1+1) wM wC:=by rw [hwC];exact(AQ yM).2
 have vC:=vM.kp (show Calm wM (w.heap.size+1+1) from⟨_,_,yM,rfl⟩) gC
 have qC:=gC.q qM (by omega)
 clear hwM hwC gM yM vM qM gC
 obtain⟨⟨v0,v1,v2,v3,v4,v5,v6,v7⟩,-⟩:=AJ (show Bx wC (w.heap.size+1+1) 34 #[.string d.name,.int .i64 d.st,.slice A d.L.length c,.slice A' d.U.length c',.int .u64 (d.last:Nat),.int .u64 (((n+0):Nat):Int),.string noS,.int .i64 (k:Nat)] from bC)
 refine bodyPost_ret (v:=BZ d (.slice A d.L.length c) (.slice A' d.U.length c') (n+0) noS k) ?_ rfl ⟨A,c,A',c',rfl,vC,qC⟩
 simp [results,Tryz.results13,go_sem,v0,v1,v2,v3,v4,v5,v6,v7,BZ,BL]
theorem PI(b:Bkt)(lv uv:Value)(a:Actn)(pv:Value)(w:World)(d:Bkt)(n t:Nat)(s:ByteArray)(k:Nat)(hr:a.kind%9=2)(hF:BC b (N2 b a.key a.tm) d n t s k)(ha:EA a)(hkey:a.key.size≤1000)(hPl:a.P.length≤1000)(hn:b.name.size≤1000)(hs:smE b.L)(hu:smL b.U)(hv:BktV w b lv uv)(hp:Pces w w.heap.size pv a.P):
  Calls Tryz.prog 13 #[bkt b lv uv,Bc a pv] w fun e w'=>∃ A c A' c',e=.returned (BZ d (.slice A d.L.length c) (.slice A' d.U.length c') (n+t) s k)∧BktV w' d (.slice A d.L.length c) (.slice A' d.U.length c')∧Q w w':=by
 obtain⟨A1,c1,rfl⟩:=hv.1.form
 obtain⟨A2,c2,rfl⟩:=hv.2.form
 obtain⟨A3,c3,rfl⟩:=hp.form
 obtain⟨hkd,-,hdat,-,hnn,htm,-⟩:=ha
 obtain⟨rfl,rfl⟩:t=0∧s=noS:=BJ (P:=fun _ t s=>t=0∧s=noS) hF ⟨rfl,rfl⟩ (fun _ _ _ _ _ h=>⟨h.2.1,h.2.2⟩)
 have C:=AC fun x (q:Q w x)=>KR b (.slice A1 b.L.length c1) (.slice A2 b.U.length c2) x a.key a.tm d _ _ _ k hF hn hs hu hkey htm.1 htm.2 (hv.on q)
 have hk9:(a.kind:Int)%9=2:=by omega
 obtain⟨kd,hkd2⟩:∃ kd:Int,kd=(a.kind:Int):=⟨_,rfl⟩
 have HKT:Hid (kd.tmod 9=2):=AC (by rw [hkd2,Int.tmod_eq_emod_of_nonneg (by omega),hk9])
 have HKD:=AC hkd2
 clear hF hn hs hu hv hp hr hk9 hkd hkey hPl hdat hnn htm
 simp only [bkt] at C
 rw [Bc,acl,bkt]
 rw [← hkd2]
 clear hkd2
 go_enter Tryz.func13,Tryz.ntmps13
 go_upto_region 5 with fail
 rw [HKT.out]
 have hkd3:=HKD.out
 clear HKT HKD
 subst hkd3
 go_wp2_with fail
 refine(C.out _ oq).mono ?_
 rintro e w1 ⟨A,c,A',c',rfl,v1,q1⟩
 have z1:=zyZ.on q1
 have y1:=zyY.on q1
 have V:=AC v1
 have ZZ:=AC z1
 have YY:=AC y1
 have QQ:=AC (oq.trans q1)
 obtain⟨⟨r0,r1,r2,r3,r4,r5,r6,r7⟩,f0,f1,f2,f3,f4,f5,f6,f7⟩:=AJ z1
 obtain⟨⟨s0,s1,s2,s3,s4,s5,s6,s7⟩,g0,g1,g2,g3,g4,g5,g6,g7⟩:=AJ y1
 clear v1 z1 y1 C
 simp only [bkt]
 go_wp2
 (try simp only [Exit.inBlock,Exit.then])
 obtain⟨wM,hwM⟩:∃ x,x=(((((((w1.setCell ⟨w.heap.size+1+1+1,0,none⟩ (.string d.name)).setCell ⟨w.heap.size+1+1+1,1,none⟩ (.int .i64 d.st)).setCell ⟨w.heap.size+1+1+1,2,none⟩ (.slice A d.L.length c)).setCell ⟨w.heap.size+1+1+1,3,none⟩ (.slice A' d.U.length c')).setCell ⟨w.heap.size+1+1+1,4,none⟩ (.int .u64 (d.last:Nat))).setCell ⟨w.heap.size+1+1+1,5,none⟩ (.int .u64 (n:Nat))).setCell ⟨w.heap.size+1+1+1,7,none⟩ (.int .i64 (k:Nat))):=⟨_,rfl⟩
 rw [← hwM]
 have gM:Kp (w.heap.size+1+1+1) w1 wM:=by rw [hwM];exact((((((((Kp.of (Q.refl _)).set 0 _).set 1 _).set 2 _).set 3 _).set 4 _).set 5 _).set 7 _)
 have yM:=gM.bx YY.out (by omega)
 have vM:=V.out.kp (show Calm w1 (w.heap.size+1+1+1) from⟨_,_,ZZ.out,rfl⟩) gM
 have qM:=gM.q QQ.out (by omega)
 obtain⟨wC,hwC⟩:∃ x,x=((((((((wM.setCell ⟨w.heap.size+1+1,0,none⟩ (.string d.name)).setCell ⟨w.heap.size+1+1,1,none⟩ (.int .i64 d.st)).setCell ⟨w.heap.size+1+1,2,none⟩ (.slice A d.L.length c)).setCell ⟨w.heap.size+1+1,3,none⟩ (.slice A' d.U.length c')).setCell ⟨w.heap.size+1+1,4,none⟩ (.int .u64 (d.last:Nat))).setCell ⟨w.heap.size+1+1,5,none⟩ (.int .u64 (n:Nat))).setCell ⟨w.heap.size+1+1,6,none⟩ (.string ⟨#[]⟩)).setCell ⟨w.heap.size+1+1,7,none⟩ (.int .i64 (k:Nat))):=⟨_,rfl⟩
 rw [← hwC]
 have bC:Bx wC (w.heap.size+1+1) 34 (BL d (.slice A d.L.length c) (.slice A' d.U.length c') (n+0) noS k):=by rw [hwC];have h:=(AQ (y0:=.string d.name) (y1:=.int .i64 d.st) (y2:=.slice A d.L.length c) (y3:=.slice A' d.U.length c') (y4:=.int .u64 (d.last:Nat)) (y5:=.int .u64 (n:Nat)) (y6:=.string ⟨#[]⟩) (y7:=.int .i64 (k:Nat)) yM).1;first | exact h | (simp only [BL,Nat.zero_add,Nat.add_zero];exact h)
 have gC:Kp (w.heap.size+1+1) wM wC:=by rw [hwC];exact(AQ yM).2
 have vC:=vM.kp (show Calm wM (w.heap.size+1+1) from⟨_,_,yM,rfl⟩) gC
 have qC:=gC.q qM (by omega)
 clear hwM hwC gM yM vM qM gC
 obtain⟨⟨v0,v1,v2,v3,v4,v5,v6,v7⟩,-⟩:=AJ (show Bx wC (w.heap.size+1+1) 34 #[.string d.name,.int .i64 d.st,.slice A d.L.length c,.slice A' d.U.length c',.int .u64 (d.last:Nat),.int .u64 (((n+0):Nat):Int),.string noS,.int .i64 (k:Nat)] from bC)
 refine bodyPost_ret (v:=BZ d (.slice A d.L.length c) (.slice A' d.U.length c') (n+0) noS k) ?_ rfl ⟨A,c,A',c',rfl,vC,qC⟩
 simp [results,Tryz.results13,go_sem,v0,v1,v2,v3,v4,v5,v6,v7,BZ,BL]
theorem PH(b:Bkt)(lv uv:Value)(a:Actn)(pv:Value)(w:World)(d:Bkt)(n t:Nat)(s:ByteArray)(k:Nat)(hr:a.kind%9=3)(hF:BC b (FP b a.key a.id) d n t s k)(ha:EA a)(hkey:a.key.size≤1000)(hPl:a.P.length≤1000)(hn:b.name.size≤1000)(hs:smE b.L)(hu:smL b.U)(hv:BktV w b lv uv)(hp:Pces w w.heap.size pv a.P):
  Calls Tryz.prog 13 #[bkt b lv uv,Bc a pv] w fun e w'=>∃ A c A' c',e=.returned (BZ d (.slice A d.L.length c) (.slice A' d.U.length c') (n+t) s k)∧BktV w' d (.slice A d.L.length c) (.slice A' d.U.length c')∧Q w w':=by
 obtain⟨A1,c1,rfl⟩:=hv.1.form
 obtain⟨A2,c2,rfl⟩:=hv.2.form
 obtain⟨A3,c3,rfl⟩:=hp.form
 obtain⟨hkd,-,hdat,-,hnn,htm,-⟩:=ha
 obtain⟨rfl,rfl,rfl⟩:n=0∧t=0∧s=noS:=BJ (P:=fun n t s=>n=0∧t=0∧s=noS) hF ⟨rfl,rfl,rfl⟩ (fun _ _ _ _ _ h=>⟨h.2.1,h.2.2.1,h.2.2.2⟩)
 have C:=AC fun x (q:Q w x)=>KU b (.slice A1 b.L.length c1) (.slice A2 b.U.length c2) x a.key a.id d _ _ _ k hF hn hs hu hkey (hv.on q)
 have hk9:(a.kind:Int)%9=3:=by omega
 obtain⟨kd,hkd2⟩:∃ kd:Int,kd=(a.kind:Int):=⟨_,rfl⟩
 have HKT:Hid (kd.tmod 9=3):=AC (by rw [hkd2,Int.tmod_eq_emod_of_nonneg (by omega),hk9])
 have HKD:=AC hkd2
 clear hF hn hs hu hv hp hr hk9 hkd hkey hPl hdat hnn htm
 simp only [bkt] at C
 rw [Bc,acl,bkt]
 rw [← hkd2]
 clear hkd2
 go_enter Tryz.func13,Tryz.ntmps13
 go_upto_region 5 with fail
 rw [HKT.out]
 have hkd3:=HKD.out
 clear HKT HKD
 subst hkd3
 go_wp2_with fail
 refine(C.out _ oq).mono ?_
 rintro e w1 ⟨A,c,A',c',rfl,v1,q1⟩
 have z1:=zyZ.on q1
 have y1:=zyY.on q1
 have V:=AC v1
 have ZZ:=AC z1
 have YY:=AC y1
 have QQ:=AC (oq.trans q1)
 obtain⟨⟨r0,r1,r2,r3,r4,r5,r6,r7⟩,f0,f1,f2,f3,f4,f5,f6,f7⟩:=AJ z1
 obtain⟨⟨s0,s1,s2,s3,s4,s5,s6,s7⟩,g0,g1,g2,g3,g4,g5,g6,g7⟩:=AJ y1
 clear v1 z1 y1 C
 simp only [bkt]
 go_wp2
 (try simp only [Exit.inBlock,Exit.then])
 obtain⟨wM,hwM⟩:∃ x,x=((((((w1.setCell ⟨w.heap.size+1+1+1,0,none⟩ (.string d.name)).setCell ⟨w.heap.size+1+1+1,1,none⟩ (.int .i64 d.st)).setCell ⟨w.heap.size+1+1+1,2,none⟩ (.slice A d.L.length c)).setCell ⟨w.heap.size+1+1+1,3,none⟩ (.slice A' d.U.length c')).setCell ⟨w.heap.size+1+1+1,4,none⟩ (.int .u64 (d.last:Nat))).setCell ⟨w.heap.size+1+1+1,7,none⟩ (.int .i64 (k:Nat))):=⟨_,rfl⟩
 rw [← hwM]
 have gM:Kp (w.heap.size+1+1+1) w1 wM:=by rw [hwM];exact(((((((Kp.of (Q.refl _)).set 0 _).set 1 _).set 2 _).set 3 _).set 4 _).set 7 _)
 have yM:=gM.bx YY.out (by omega)
 have vM:=V.out.kp (show Calm w1 (w.heap.size+1+1+1) from⟨_,_,ZZ.out,rfl⟩) gM
 have qM:=gM.q QQ.out (by omega)
 obtain⟨wC,hwC⟩:∃ x,x=((((((((wM.setCell ⟨w.heap.size+1+1,0,none⟩ (.string d.name)).setCell ⟨w.heap.size+1+1,1,none⟩ (.int .i64 d.st)).setCell ⟨w.heap.size+1+1,2,none⟩ (.slice A d.L.length c)).setCell ⟨w.heap.size+1+1,3,none⟩ (.slice A' d.U.length c')).setCell ⟨w.heap.size+1+1,4,none⟩ (.int .u64 (d.last:Nat))).setCell ⟨w.heap.size+1+1,5,none⟩ (.int .u64 0)).setCell ⟨w.heap.size+1+1,6,none⟩ (.string ⟨#[]⟩)).setCell ⟨w.heap.size+1+1,7,none⟩ (.int .i64 (k:Nat))):=⟨_,rfl⟩
 rw [← hwC]
 have bC:Bx wC (w.heap.size+1+1) 34 (BL d (.slice A d.L.length c) (.slice A' d.U.length c') (0+0) noS k):=by rw [hwC];have h:=(AQ (y0:=.string d.name) (y1:=.int .i64 d.st) (y2:=.slice A d.L.length c) (y3:=.slice A' d.U.length c') (y4:=.int .u64 (d.last:Nat)) (y5:=.int .u64 0) (y6:=.string ⟨#[]⟩) (y7:=.int .i64 (k:Nat)) yM).1;first | exact h | (simp only [BL,Nat.zero_add,Nat.add_zero];exact h)
 have gC:Kp (w.heap.size+1+1) wM wC:=by rw [hwC];exact(AQ yM).2
 have vC:=vM.kp (show Calm wM (w.heap.size+1+1) from⟨_,_,yM,rfl⟩) gC
 have qC:=gC.q qM (by omega)
 clear hwM hwC gM yM vM qM gC
 obtain⟨⟨v0,v1,v2,v3,v4,v5,v6,v7⟩,-⟩:=AJ (show Bx wC (w.heap.size+1+1) 34 #[.string d.name,.int .i64 d.st,.slice A d.L.length c,.slice A' d.U.length c',.int .u64 (d.last:Nat),.int .u64 (((0+0):Nat):Int),.string noS,.int .i64 (k:Nat)] from bC)
 refine bodyPost_ret (v:=BZ d (.slice A d.L.length c) (.slice A' d.U.length c') (0+0) noS k) ?_ rfl ⟨A,c,A',c',rfl,vC,qC⟩
 simp [results,Tryz.results13,go_sem,v0,v1,v2,v3,v4,v5,v6,v7,BZ,BL]
theorem PG(b:Bkt)(lv uv:Value)(a:Actn)(pv:Value)(w:World)(d:Bkt)(n t:Nat)(s:ByteArray)(k:Nat)(hr:a.kind%9=4)(hF:BC b (FO b a.n) d n t s k)(ha:EA a)(hkey:a.key.size≤1000)(hPl:a.P.length≤1000)(hn:b.name.size≤1000)(hs:smE b.L)(hu:smL b.U)(hv:BktV w b lv uv)(hp:Pces w w.heap.size pv a.P):
  Calls Tryz.prog 13 #[bkt b lv uv,Bc a pv] w fun e w'=>∃ A c A' c',e=.returned (BZ d (.slice A d.L.length c) (.slice A' d.U.length c') (n+t) s k)∧BktV w' d (.slice A d.L.length c) (.slice A' d.U.length c')∧Q w w':=by
 obtain⟨A1,c1,rfl⟩:=hv.1.form
 obtain⟨A2,c2,rfl⟩:=hv.2.form
 obtain⟨A3,c3,rfl⟩:=hp.form
 obtain⟨hkd,-,hdat,-,hnn,htm,-⟩:=ha
 obtain⟨rfl,rfl,rfl⟩:n=0∧t=0∧s=noS:=BJ (P:=fun n t s=>n=0∧t=0∧s=noS) hF ⟨rfl,rfl,rfl⟩ (fun _ _ _ _ _ h=>⟨h.2.1,h.2.2.1,h.2.2.2⟩)
 have C:=AC fun x (q:Q w x)=>KG b (.slice A1 b.L.length c1) (.slice A2 b.U.length c2) x a.n d _ _ _ k hF hn hs hu  (hv.on q)
 have hk9:(a.kind:Int)%9=4:=by omega
 obtain⟨kd,hkd2⟩:∃ kd:Int,kd=(a.kind:Int):=⟨_,rfl⟩
 have HKT:Hid (kd.tmod 9=4):=AC (by rw [hkd2,Int.tmod_eq_emod_of_nonneg (by omega),hk9])
 have HKD:=AC hkd2
 clear hF hn hs hu hv hp hr hk9 hkd hkey hPl hdat hnn htm
 simp only [bkt] at C
 rw [Bc,acl,bkt]
 rw [← hkd2]
 clear hkd2
 go_enter Tryz.func13,Tryz.ntmps13
 go_upto_region 5 with fail
 rw [HKT.out]
 have hkd3:=HKD.out
 clear HKT HKD
 subst hkd3
 go_wp2_with fail
 refine(C.out _ oq).mono ?_
 rintro e w1 ⟨A,c,A',c',rfl,v1,q1⟩
 have z1:=zyZ.on q1
 have y1:=zyY.on q1
 have V:=AC v1
 have ZZ:=AC z1
 have YY:=AC y1
 have QQ:=AC (oq.trans q1)
 obtain⟨⟨r0,r1,r2,r3,r4,r5,r6,r7⟩,f0,f1,f2,f3,f4,f5,f6,f7⟩:=AJ z1
 obtain⟨⟨s0,s1,s2,s3,s4,s5,s6,s7⟩,g0,g1,g2,g3,g4,g5,g6,g7⟩:=AJ y1
 clear v1 z1 y1 C
 simp only [bkt]
 go_wp2
 (try simp only [Exit.inBlock,Exit.then])
 obtain⟨wM,hwM⟩:∃ x,x=((((((w1.setCell ⟨w.heap.size+1+1+1,0,none⟩ (.string d.name)).setCell ⟨w.heap.size+1+1+1,1,none⟩ (.int .i64 d.st)).setCell ⟨w.heap.size+1+1+1,2,none⟩ (.slice A d.L.length c)).setCell ⟨w.heap.size+1+1+1,3,none⟩ (.slice A' d.U.length c')).setCell ⟨w.heap.size+1+1+1,4,none⟩ (.int .u64 (d.last:Nat))).setCell ⟨w.heap.size+1+1+1,7,none⟩ (.int .i64 (k:Nat))):=⟨_,rfl⟩
 rw [← hwM]
 have gM:Kp (w.heap.size+1+1+1) w1 wM:=by rw [hwM];exact(((((((Kp.of (Q.refl _)).set 0 _).set 1 _).set 2 _).set 3 _).set 4 _).set 7 _)
 have yM:=gM.bx YY.out (by omega)
 have vM:=V.out.kp (show Calm w1 (w.heap.size+1+1+1) from⟨_,_,ZZ.out,rfl⟩) gM
 have qM:=gM.q QQ.out (by omega)
 obtain⟨wC,hwC⟩:∃ x,x=((((((((wM.setCell ⟨w.heap.size+1+1,0,none⟩ (.string d.name)).setCell ⟨w.heap.size+1+1,1,none⟩ (.int .i64 d.st)).setCell ⟨w.heap.size+1+1,2,none⟩ (.slice A d.L.length c)).setCell ⟨w.heap.size+1+1,3,none⟩ (.slice A' d.U.length c')).setCell ⟨w.heap.size+1+1,4,none⟩ (.int .u64 (d.last:Nat))).setCell ⟨w.heap.size+1+1,5,none⟩ (.int .u64 0)).setCell ⟨w.heap.size+1+1,6,none⟩ (.string ⟨#[]⟩)).setCell ⟨w.heap.size+1+1,7,none⟩ (.int .i64 (k:Nat))):=⟨_,rfl⟩
 rw [← hwC]
 have bC:Bx wC (w.heap.size+1+1) 34 (BL d (.slice A d.L.length c) (.slice A' d.U.length c') (0+0) noS k):=by rw [hwC];have h:=(AQ (y0:=.string d.name) (y1:=.int .i64 d.st) (y2:=.slice A d.L.length c) (y3:=.slice A' d.U.length c') (y4:=.int .u64 (d.last:Nat)) (y5:=.int .u64 0) (y6:=.string ⟨#[]⟩) (y7:=.int .i64 (k:Nat)) yM).1;first | exact h | (simp only [BL,Nat.zero_add,Nat.add_zero];exact h)
 have gC:Kp (w.heap.size+1+1) wM wC:=by rw [hwC];exact(AQ yM).2
 have vC:=vM.kp (show Calm wM (w.heap.size+1+1) from⟨_,_,yM,rfl⟩) gC
 have qC:=gC.q qM (by omega)
 clear hwM hwC gM yM vM qM gC
 obtain⟨⟨v0,v1,v2,v3,v4,v5,v6,v7⟩,-⟩:=AJ (show Bx wC (w.heap.size+1+1) 34 #[.string d.name,.int .i64 d.st,.slice A d.L.length c,.slice A' d.U.length c',.int .u64 (d.last:Nat),.int .u64 (((0+0):Nat):Int),.string noS,.int .i64 (k:Nat)] from bC)
 refine bodyPost_ret (v:=BZ d (.slice A d.L.length c) (.slice A' d.U.length c') (0+0) noS k) ?_ rfl ⟨A,c,A',c',rfl,vC,qC⟩
 simp [results,Tryz.results13,go_sem,v0,v1,v2,v3,v4,v5,v6,v7,BZ,BL]
theorem PF(b:Bkt)(lv uv:Value)(a:Actn)(pv:Value)(w:World)(d:Bkt)(n t:Nat)(s:ByteArray)(k:Nat)(hr:a.kind%9=5)(hF:BC b (N7 b a.key) d n t s k)(ha:EA a)(hkey:a.key.size≤1000)(hPl:a.P.length≤1000)(hn:b.name.size≤1000)(hs:smE b.L)(hu:smL b.U)(hv:BktV w b lv uv)(hp:Pces w w.heap.size pv a.P):
  Calls Tryz.prog 13 #[bkt b lv uv,Bc a pv] w fun e w'=>∃ A c A' c',e=.returned (BZ d (.slice A d.L.length c) (.slice A' d.U.length c') (n+t) s k)∧BktV w' d (.slice A d.L.length c) (.slice A' d.U.length c')∧Q w w':=by
 obtain⟨A1,c1,rfl⟩:=hv.1.form
 obtain⟨A2,c2,rfl⟩:=hv.2.form
 obtain⟨A3,c3,rfl⟩:=hp.form
 obtain⟨hkd,-,hdat,-,hnn,htm,-⟩:=ha
 obtain⟨rfl,rfl⟩:t=0∧s=noS:=BJ (P:=fun _ t s=>t=0∧s=noS) hF ⟨rfl,rfl⟩ (fun _ _ _ _ _ h=>⟨h.2.1,h.2.2⟩)
 have C:=AC fun x (q:Q w x)=>Ib b (.slice A1 b.L.length c1) (.slice A2 b.U.length c2) x a.key d _ _ _ k hF hn hs hu hkey (hv.on q)
 have hk9:(a.kind:Int)%9=5:=by omega
 obtain⟨kd,hkd2⟩:∃ kd:Int,kd=(a.kind:Int):=⟨_,rfl⟩
 have HKT:Hid (kd.tmod 9=5):=AC (by rw [hkd2,Int.tmod_eq_emod_of_nonneg (by omega),hk9])
 have HKD:=AC hkd2
 clear hF hn hs hu hv hp hr hk9 hkd hkey hPl hdat hnn htm
 simp only [bkt] at C
 rw [Bc,acl,bkt]
 rw [← hkd2]
 clear hkd2
 go_enter Tryz.func13,Tryz.ntmps13
 go_upto_region 5 with fail
 rw [HKT.out]
 have hkd3:=HKD.out
 clear HKT HKD
 subst hkd3
 go_wp2_with fail
 refine(C.out _ oq).mono ?_
 rintro e w1 ⟨A,c,A',c',rfl,v1,q1⟩
 have z1:=zyZ.on q1
 have y1:=zyY.on q1
 have V:=AC v1
 have ZZ:=AC z1
 have YY:=AC y1
 have QQ:=AC (oq.trans q1)
 obtain⟨⟨r0,r1,r2,r3,r4,r5,r6,r7⟩,f0,f1,f2,f3,f4,f5,f6,f7⟩:=AJ z1
 obtain⟨⟨s0,s1,s2,s3,s4,s5,s6,s7⟩,g0,g1,g2,g3,g4,g5,g6,g7⟩:=AJ y1
 clear v1 z1 y1 C
 simp only [bkt]
 go_wp2
 (try simp only [Exit.inBlock,Exit.then])
 obtain⟨wM,hwM⟩:∃ x,x=(((((((w1.setCell ⟨w.heap.size+1+1+1,0,none⟩ (.string d.name)).setCell ⟨w.heap.size+1+1+1,1,none⟩ (.int .i64 d.st)).setCell ⟨w.heap.size+1+1+1,2,none⟩ (.slice A d.L.length c)).setCell ⟨w.heap.size+1+1+1,3,none⟩ (.slice A' d.U.length c')).setCell ⟨w.heap.size+1+1+1,4,none⟩ (.int .u64 (d.last:Nat))).setCell ⟨w.heap.size+1+1+1,5,none⟩ (.int .u64 (n:Nat))).setCell ⟨w.heap.size+1+1+1,7,none⟩ (.int .i64 (k:Nat))):=⟨_,rfl⟩
 rw [← hwM]
 have gM:Kp (w.heap.size+1+1+1) w1 wM:=by rw [hwM];exact((((((((Kp.of (Q.refl _)).set 0 _).set 1 _).set 2 _).set 3 _).set 4 _).set 5 _).set 7 _)
 have yM:=gM.bx YY.out (by omega)
 have vM:=V.out.kp (show Calm w1 (w.heap.size+1+1+1) from⟨_,_,ZZ.out,rfl⟩) gM
 have qM:=gM.q QQ.out (by omega)
 obtain⟨wC,hwC⟩:∃ x,x=((((((((wM.setCell ⟨w.heap.size+1+1,0,none⟩ (.string d.name)).setCell ⟨w.heap.size+1+1,1,none⟩ (.int .i64 d.st)).setCell ⟨w.heap.size+1+1,2,none⟩ (.slice A d.L.length c)).setCell ⟨w.heap.size+1+1,3,none⟩ (.slice A' d.U.length c')).setCell ⟨w.heap.size+1+1,4,none⟩ (.int .u64 (d.last:Nat))).setCell ⟨w.heap.size+1+1,5,none⟩ (.int .u64 (n:Nat))).setCell ⟨w.heap.size+1+1,6,none⟩ (.string ⟨#[]⟩)).setCell ⟨w.heap.size+1+1,7,none⟩ (.int .i64 (k:Nat))):=⟨_,rfl⟩
 rw [← hwC]
 have bC:Bx wC (w.heap.size+1+1) 34 (BL d (.slice A d.L.length c) (.slice A' d.U.length c') (n+0) noS k):=by rw [hwC];have h:=(AQ (y0:=.string d.name) (y1:=.int .i64 d.st) (y2:=.slice A d.L.length c) (y3:=.slice A' d.U.length c') (y4:=.int .u64 (d.last:Nat)) (y5:=.int .u64 (n:Nat)) (y6:=.string ⟨#[]⟩) (y7:=.int .i64 (k:Nat)) yM).1;first | exact h | (simp only [BL,Nat.zero_add,Nat.add_zero];exact h)
 have gC:Kp (w.heap.size+1+1) wM wC:=by rw [hwC];exact(AQ yM).2
 have vC:=vM.kp (show Calm wM (w.heap.size+1+1) from⟨_,_,yM,rfl⟩) gC
 have qC:=gC.q qM (by omega)
 clear hwM hwC gM yM vM qM gC
 obtain⟨⟨v0,v1,v2,v3,v4,v5,v6,v7⟩,-⟩:=AJ (show Bx wC (w.heap.size+1+1) 34 #[.string d.name,.int .i64 d.st,.slice A d.L.length c,.slice A' d.U.length c',.int .u64 (d.last:Nat),.int .u64 (((n+0):Nat):Int),.string noS,.int .i64 (k:Nat)] from bC)
 refine bodyPost_ret (v:=BZ d (.slice A d.L.length c) (.slice A' d.U.length c') (n+0) noS k) ?_ rfl ⟨A,c,A',c',rfl,vC,qC⟩
 simp [results,Tryz.results13,go_sem,v0,v1,v2,v3,v4,v5,v6,v7,BZ,BL]
theorem PD(b:Bkt)(lv uv:Value)(a:Actn)(pv:Value)(w:World)(d:Bkt)(n t:Nat)(s:ByteArray)(k:Nat)(hr:a.kind%9=6)(hF:BC b (N1 b a.id ⟨a.n,a.data⟩) d n t s k)(ha:EA a)(hkey:a.key.size≤1000)(hPl:a.P.length≤1000)(hn:b.name.size≤1000)(hs:smE b.L)(hu:smL b.U)(hv:BktV w b lv uv)(hp:Pces w w.heap.size pv a.P):
  Calls Tryz.prog 13 #[bkt b lv uv,Bc a pv] w fun e w'=>∃ A c A' c',e=.returned (BZ d (.slice A d.L.length c) (.slice A' d.U.length c') (n+t) s k)∧BktV w' d (.slice A d.L.length c) (.slice A' d.U.length c')∧Q w w':=by
 obtain⟨A1,c1,rfl⟩:=hv.1.form
 obtain⟨A2,c2,rfl⟩:=hv.2.form
 obtain⟨A3,c3,rfl⟩:=hp.form
 obtain⟨hkd,-,hdat,-,hnn,htm,-⟩:=ha
 have ht:t<4294967296:=BJ (P:=fun _ t _=>t<4294967296) hF (by decide) (fun d n t s k h=>by
  obtain⟨⟨U,hL,-⟩,-⟩:=h
  cases hL with
  | yes=>exact Hz _
  | arg=>decide
  | none=>decide
  | large=>decide)
 have HT:Hid (IntKind.u64.wrap ((t:Nat):Int)=((t:Nat):Int)):=AC (by rw [IntKind.wrap_u64];omega)
 clear ht
 obtain⟨rfl,rfl⟩:n=0∧s=noS:=BJ (P:=fun n _ s=>n=0∧s=noS) hF ⟨rfl,rfl⟩ (fun _ _ _ _ _ h=>⟨h.2.1,h.2.2⟩)
 have C:=AC fun x (q:Q w x)=>MH b (.slice A1 b.L.length c1) (.slice A2 b.U.length c2) x a.id a.n a.data d _ _ _ k hF hn hs hu ⟨hnn.1,hnn.2,hdat⟩ (hv.on q)
 have hk9:(a.kind:Int)%9=6:=by omega
 obtain⟨kd,hkd2⟩:∃ kd:Int,kd=(a.kind:Int):=⟨_,rfl⟩
 have HKT:Hid (kd.tmod 9=6):=AC (by rw [hkd2,Int.tmod_eq_emod_of_nonneg (by omega),hk9])
 have HKD:=AC hkd2
 clear hF hn hs hu hv hp hr hk9 hkd hkey hPl hdat hnn htm
 simp only [bkt] at C
 rw [Bc,acl,bkt]
 rw [← hkd2]
 clear hkd2
 go_enter Tryz.func13,Tryz.ntmps13
 go_upto_region 5 with fail
 rw [HKT.out]
 have hkd3:=HKD.out
 clear HKT HKD
 subst hkd3
 go_wp2_with fail
 refine(C.out _ oq).mono ?_
 rintro e w1 ⟨A,c,A',c',rfl,v1,q1⟩
 have z1:=zyZ.on q1
 have y1:=zyY.on q1
 have V:=AC v1
 have ZZ:=AC z1
 have YY:=AC y1
 have QQ:=AC (oq.trans q1)
 obtain⟨⟨r0,r1,r2,r3,r4,r5,r6,r7⟩,f0,f1,f2,f3,f4,f5,f6,f7⟩:=AJ z1
 obtain⟨⟨s0,s1,s2,s3,s4,s5,s6,s7⟩,g0,g1,g2,g3,g4,g5,g6,g7⟩:=AJ y1
 clear v1 z1 y1 C q1
 simp only [bkt]
 go_upto_region 18 with fail
 obtain⟨wx,hwx⟩:∃ x,x=(w1.alloc (.cells #[.string d.name,.int .i64 d.st,.slice A d.L.length c,.slice A' d.U.length c',.int .u64 (d.last:Nat)] 26)):=⟨_,rfl⟩
 have qx:Q w1 wx:=by rw [hwx];exact(Q.refl w1).alloc _
 have bx:Bx wx w1.heap.size 26 (bcl d (.slice A d.L.length c) (.slice A' d.U.length c')):=by rw [hwx];exact Bx.new _ _ _
 rw [← hwx]
 clear hwx
 have z1:=ZZ.out.on qx
 have y1:=YY.out.on qx
 have v1:=V.out.on qx
 have q1:=QQ.out.trans qx
 clear V ZZ YY QQ
 have V:=AC v1
 have ZZ:=AC z1
 have YY:=AC y1
 have QQ:=AC q1
 clear r0 r1 r2 r3 r4 r5 r6 r7 f0 f1 f2 f3 f4 f5 f6 f7 s0 s1 s2 s3 s4 s5 s6 s7 g0 g1 g2 g3 g4 g5 g6 g7
 obtain⟨⟨r0,r1,r2,r3,r4,r5,r6,r7⟩,f0,f1,f2,f3,f4,f5,f6,f7⟩:=AJ z1
 obtain⟨⟨s0,s1,s2,s3,s4,s5,s6,s7⟩,g0,g1,g2,g3,g4,g5,g6,g7⟩:=AJ y1
 obtain⟨k0,k1,k2,k3,k4⟩:=AD bx
 clear z1 y1 v1 q1 qx bx
 go_wp2
 (try simp only [Exit.inBlock,Exit.then])
 rw [HT.out]
 obtain⟨wM,hwM⟩:∃ x,x=(((((((wx.setCell ⟨w.heap.size+1+1+1,0,none⟩ (.string d.name)).setCell ⟨w.heap.size+1+1+1,1,none⟩ (.int .i64 d.st)).setCell ⟨w.heap.size+1+1+1,2,none⟩ (.slice A d.L.length c)).setCell ⟨w.heap.size+1+1+1,3,none⟩ (.slice A' d.U.length c')).setCell ⟨w.heap.size+1+1+1,4,none⟩ (.int .u64 (d.last:Nat))).setCell ⟨w.heap.size+1+1+1,5,none⟩ (.int .u64 (t:Nat))).setCell ⟨w.heap.size+1+1+1,7,none⟩ (.int .i64 (k:Nat))):=⟨_,rfl⟩
 rw [← hwM]
 have gM:Kp (w.heap.size+1+1+1) wx wM:=by rw [hwM];exact((((((((Kp.of (Q.refl _)).set 0 _).set 1 _).set 2 _).set 3 _).set 4 _).set 5 _).set 7 _)
 have yM:=gM.bx YY.out (by omega)
 have vM:=V.out.kp (show Calm wx (w.heap.size+1+1+1) from⟨_,_,ZZ.out,rfl⟩) gM
 have qM:=gM.q QQ.out (by omega)
 obtain⟨wC,hwC⟩:∃ x,x=((((((((wM.setCell ⟨w.heap.size+1+1,0,none⟩ (.string d.name)).setCell ⟨w.heap.size+1+1,1,none⟩ (.int .i64 d.st)).setCell ⟨w.heap.size+1+1,2,none⟩ (.slice A d.L.length c)).setCell ⟨w.heap.size+1+1,3,none⟩ (.slice A' d.U.length c')).setCell ⟨w.heap.size+1+1,4,none⟩ (.int .u64 (d.last:Nat))).setCell ⟨w.heap.size+1+1,5,none⟩ (.int .u64 (t:Nat))).setCell ⟨w.heap.size+1+1,6,none⟩ (.string ⟨#[]⟩)).setCell ⟨w.heap.size+1+1,7,none⟩ (.int .i64 (k:Nat))):=⟨_,rfl⟩
 rw [← hwC]
 have bC:Bx wC (w.heap.size+1+1) 34 (BL d (.slice A d.L.length c) (.slice A' d.U.length c') (0+t) noS k):=by rw [hwC];have h:=(AQ (y0:=.string d.name) (y1:=.int .i64 d.st) (y2:=.slice A d.L.length c) (y3:=.slice A' d.U.length c') (y4:=.int .u64 (d.last:Nat)) (y5:=.int .u64 (t:Nat)) (y6:=.string ⟨#[]⟩) (y7:=.int .i64 (k:Nat)) yM).1;first | exact h | (simp only [BL,Nat.zero_add,Nat.add_zero];exact h)
 have gC:Kp (w.heap.size+1+1) wM wC:=by rw [hwC];exact(AQ yM).2
 have vC:=vM.kp (show Calm wM (w.heap.size+1+1) from⟨_,_,yM,rfl⟩) gC
 have qC:=gC.q qM (by omega)
 clear hwM hwC gM yM vM qM gC
 obtain⟨⟨v0,v1,v2,v3,v4,v5,v6,v7⟩,-⟩:=AJ (show Bx wC (w.heap.size+1+1) 34 #[.string d.name,.int .i64 d.st,.slice A d.L.length c,.slice A' d.U.length c',.int .u64 (d.last:Nat),.int .u64 (((0+t):Nat):Int),.string noS,.int .i64 (k:Nat)] from bC)
 refine bodyPost_ret (v:=BZ d (.slice A d.L.length c) (.slice A' d.U.length c') (0+t) noS k) ?_ rfl ⟨A,c,A',c',rfl,vC,qC⟩
 simp [results,Tryz.results13,go_sem,v0,v1,v2,v3,v4,v5,v6,v7,BZ,BL]
theorem PB(b:Bkt)(lv uv:Value)(a:Actn)(pv:Value)(w:World)(d:Bkt)(n t:Nat)(s:ByteArray)(k:Nat)(hr:a.kind%9=7)(hF:BC b (Lc b a.id) d n t s k)(ha:EA a)(hkey:a.key.size≤1000)(hPl:a.P.length≤1000)(hn:b.name.size≤1000)(hs:smE b.L)(hu:smL b.U)(hv:BktV w b lv uv)(hp:Pces w w.heap.size pv a.P):
  Calls Tryz.prog 13 #[bkt b lv uv,Bc a pv] w fun e w'=>∃ A c A' c',e=.returned (BZ d (.slice A d.L.length c) (.slice A' d.U.length c') (n+t) s k)∧BktV w' d (.slice A d.L.length c) (.slice A' d.U.length c')∧Q w w':=by
 obtain⟨A1,c1,rfl⟩:=hv.1.form
 obtain⟨A2,c2,rfl⟩:=hv.2.form
 obtain⟨A3,c3,rfl⟩:=hp.form
 obtain⟨hkd,-,hdat,-,hnn,htm,-⟩:=ha
 obtain⟨rfl,rfl,rfl⟩:n=0∧t=0∧s=noS:=BJ (P:=fun n t s=>n=0∧t=0∧s=noS) hF ⟨rfl,rfl,rfl⟩ (fun _ _ _ _ _ h=>⟨h.2.1,h.2.2.1,h.2.2.2⟩)
 have C:=AC fun x (q:Q w x)=>Ej b (.slice A1 b.L.length c1) (.slice A2 b.U.length c2) x a.id d _ _ _ k hF hn hs hu  (hv.on q)
 have hk9:(a.kind:Int)%9=7:=by omega
 obtain⟨kd,hkd2⟩:∃ kd:Int,kd=(a.kind:Int):=⟨_,rfl⟩
 have HKT:Hid (kd.tmod 9=7):=AC (by rw [hkd2,Int.tmod_eq_emod_of_nonneg (by omega),hk9])
 have HKD:=AC hkd2
 clear hF hn hs hu hv hp hr hk9 hkd hkey hPl hdat hnn htm
 simp only [bkt] at C
 rw [Bc,acl,bkt]
 rw [← hkd2]
 clear hkd2
 go_enter Tryz.func13,Tryz.ntmps13
 go_upto_region 5 with fail
 rw [HKT.out]
 have hkd3:=HKD.out
 clear HKT HKD
 subst hkd3
 go_wp2_with fail
 refine(C.out _ oq).mono ?_
 rintro e w1 ⟨A,c,A',c',rfl,v1,q1⟩
 have z1:=zyZ.on q1
 have y1:=zyY.on q1
 have V:=AC v1
 have ZZ:=AC z1
 have YY:=AC y1
 have QQ:=AC (oq.trans q1)
 obtain⟨⟨r0,r1,r2,r3,r4,r5,r6,r7⟩,f0,f1,f2,f3,f4,f5,f6,f7⟩:=AJ z1
 obtain⟨⟨s0,s1,s2,s3,s4,s5,s6,s7⟩,g0,g1,g2,g3,g4,g5,g6,g7⟩:=AJ y1
 clear v1 z1 y1 C
 simp only [bkt]
 go_wp2
 (try simp only [Exit.inBlock,Exit.then])
 obtain⟨wM,hwM⟩:∃ x,x=((((((w1.setCell ⟨w.heap.size+1+1+1,0,none⟩ (.string d.name)).setCell ⟨w.heap.size+1+1+1,1,none⟩ (.int .i64 d.st)).setCell ⟨w.heap.size+1+1+1,2,none⟩ (.slice A d.L.length c)).setCell ⟨w.heap.size+1+1+1,3,none⟩ (.slice A' d.U.length c')).setCell ⟨w.heap.size+1+1+1,4,none⟩ (.int .u64 (d.last:Nat))).setCell ⟨w.heap.size+1+1+1,7,none⟩ (.int .i64 (k:Nat))):=⟨_,rfl⟩
 rw [← hwM]
 have gM:Kp (w.heap.size+1+1+1) w1 wM:=by rw [hwM];exact(((((((Kp.of (Q.refl _)).set 0 _).set 1 _).set 2 _).set 3 _).set 4 _).set 7 _)
 have yM:=gM.bx YY.out (by omega)
 have vM:=V.out.kp (show Calm w1 (w.heap.size+1+1+1) from⟨_,_,ZZ.out,rfl⟩) gM
 have qM:=gM.q QQ.out (by omega)
 obtain⟨wC,hwC⟩:∃ x,x=((((((((wM.setCell ⟨w.heap.size+1+1,0,none⟩ (.string d.name)).setCell ⟨w.heap.size+1+1,1,none⟩ (.int .i64 d.st)).setCell ⟨w.heap.size+1+1,2,none⟩ (.slice A d.L.length c)).setCell ⟨w.heap.size+1+1,3,none⟩ (.slice A' d.U.length c')).setCell ⟨w.heap.size+1+1,4,none⟩ (.int .u64 (d.last:Nat))).setCell ⟨w.heap.size+1+1,5,none⟩ (.int .u64 0)).setCell ⟨w.heap.size+1+1,6,none⟩ (.string ⟨#[]⟩)).setCell ⟨w.heap.size+1+1,7,none⟩ (.int .i64 (k:Nat))):=⟨_,rfl⟩
 rw [← hwC]
 have bC:Bx wC (w.heap.size+1+1) 34 (BL d (.slice A d.L.length c) (.slice A' d.U.length c') (0+0) noS k):=by rw [hwC];have h:=(AQ (y0:=.string d.name) (y1:=.int .i64 d.st) (y2:=.slice A d.L.length c) (y3:=.slice A' d.U.length c') (y4:=.int .u64 (d.last:Nat)) (y5:=.int .u64 0) (y6:=.string ⟨#[]⟩) (y7:=.int .i64 (k:Nat)) yM).1;first | exact h | (simp only [BL,Nat.zero_add,Nat.add_zero];exact h)
 have gC:Kp (w.heap.size+1+1) wM wC:=by rw [hwC];exact(AQ yM).2
 have vC:=vM.kp (show Calm wM (w.heap.size+1+1) from⟨_,_,yM,rfl⟩) gC
 have qC:=gC.q qM (by omega)
 clear hwM hwC gM yM vM qM gC
 obtain⟨⟨v0,v1,v2,v3,v4,v5,v6,v7⟩,-⟩:=AJ (show Bx wC (w.heap.size+1+1) 34 #[.string d.name,.int .i64 d.st,.slice A d.L.length c,.slice A' d.U.length c',.int .u64 (d.last:Nat),.int .u64 (((0+0):Nat):Int),.string noS,.int .i64 (k:Nat)] from bC)
 refine bodyPost_ret (v:=BZ d (.slice A d.L.length c) (.slice A' d.U.length c') (0+0) noS k) ?_ rfl ⟨A,c,A',c',rfl,vC,qC⟩
 simp [results,Tryz.results13,go_sem,v0,v1,v2,v3,v4,v5,v6,v7,BZ,BL]
theorem PA(b:Bkt)(lv uv:Value)(a:Actn)(pv:Value)(w:World)(d:Bkt)(n t:Nat)(s:ByteArray)(k:Nat)(hr:a.kind%9=8)(hF:BC b (Nz b a.id a.P a.tm) d n t s k)(ha:EA a)(hkey:a.key.size≤1000)(hPl:a.P.length≤1000)(hn:b.name.size≤1000)(hs:smE b.L)(hu:smL b.U)(hv:BktV w b lv uv)(hp:Pces w w.heap.size pv a.P):
  Calls Tryz.prog 13 #[bkt b lv uv,Bc a pv] w fun e w'=>∃ A c A' c',e=.returned (BZ d (.slice A d.L.length c) (.slice A' d.U.length c') (n+t) s k)∧BktV w' d (.slice A d.L.length c) (.slice A' d.U.length c')∧Q w w':=by
 obtain⟨A1,c1,rfl⟩:=hv.1.form
 obtain⟨A2,c2,rfl⟩:=hv.2.form
 obtain⟨A3,c3,rfl⟩:=hp.form
 obtain⟨hkd,-,hdat,-,hnn,htm,-⟩:=ha
 obtain rfl:t=0:=BJ (P:=fun _ t _=>t=0) hF rfl (fun _ _ _ _ _ h=>h.2)
 have C:=AC fun x (q:Q w x)=>IU b (.slice A1 b.L.length c1) (.slice A2 b.U.length c2) x a.id a.P A3 c3 a.tm d _ _ _ k hF hn hs hu hPl htm.1 htm.2 (hp.on q) (hv.on q)
 have hk9:(a.kind:Int)%9=8:=by omega
 obtain⟨kd,hkd2⟩:∃ kd:Int,kd=(a.kind:Int):=⟨_,rfl⟩
 have HKT:Hid (kd.tmod 9=8):=AC (by rw [hkd2,Int.tmod_eq_emod_of_nonneg (by omega),hk9])
 have HKD:=AC hkd2
 clear hF hn hs hu hv hp hr hk9 hkd hkey hPl hdat hnn htm
 simp only [bkt] at C
 rw [Bc,acl,bkt]
 rw [← hkd2]
 clear hkd2
 go_enter Tryz.func13,Tryz.ntmps13
 go_upto_region 5 with fail
 rw [HKT.out]
 have hkd3:=HKD.out
 clear HKT HKD
 subst hkd3
 go_wp2_with fail
 refine(C.out _ oq).mono ?_
 rintro e w1 ⟨A,c,A',c',rfl,v1,q1⟩
 have z1:=zyZ.on q1
 have y1:=zyY.on q1
 have V:=AC v1
 have ZZ:=AC z1
 have YY:=AC y1
 have QQ:=AC (oq.trans q1)
 obtain⟨⟨r0,r1,r2,r3,r4,r5,r6,r7⟩,f0,f1,f2,f3,f4,f5,f6,f7⟩:=AJ z1
 obtain⟨⟨s0,s1,s2,s3,s4,s5,s6,s7⟩,g0,g1,g2,g3,g4,g5,g6,g7⟩:=AJ y1
 clear v1 z1 y1 C
 simp only [bkt]
 go_wp2
 (try simp only [Exit.inBlock,Exit.then])
 obtain⟨wM,hwM⟩:∃ x,x=((((((((w1.setCell ⟨w.heap.size+1+1+1,0,none⟩ (.string d.name)).setCell ⟨w.heap.size+1+1+1,1,none⟩ (.int .i64 d.st)).setCell ⟨w.heap.size+1+1+1,2,none⟩ (.slice A d.L.length c)).setCell ⟨w.heap.size+1+1+1,3,none⟩ (.slice A' d.U.length c')).setCell ⟨w.heap.size+1+1+1,4,none⟩ (.int .u64 (d.last:Nat))).setCell ⟨w.heap.size+1+1+1,5,none⟩ (.int .u64 (n:Nat))).setCell ⟨w.heap.size+1+1+1,6,none⟩ (.string s)).setCell ⟨w.heap.size+1+1+1,7,none⟩ (.int .i64 (k:Nat))):=⟨_,rfl⟩
 rw [← hwM]
 have gM:Kp (w.heap.size+1+1+1) w1 wM:=by rw [hwM];exact(((((((((Kp.of (Q.refl _)).set 0 _).set 1 _).set 2 _).set 3 _).set 4 _).set 5 _).set 6 _).set 7 _)
 have yM:=gM.bx YY.out (by omega)
 have vM:=V.out.kp (show Calm w1 (w.heap.size+1+1+1) from⟨_,_,ZZ.out,rfl⟩) gM
 have qM:=gM.q QQ.out (by omega)
 obtain⟨wC,hwC⟩:∃ x,x=((((((((wM.setCell ⟨w.heap.size+1+1,0,none⟩ (.string d.name)).setCell ⟨w.heap.size+1+1,1,none⟩ (.int .i64 d.st)).setCell ⟨w.heap.size+1+1,2,none⟩ (.slice A d.L.length c)).setCell ⟨w.heap.size+1+1,3,none⟩ (.slice A' d.U.length c')).setCell ⟨w.heap.size+1+1,4,none⟩ (.int .u64 (d.last:Nat))).setCell ⟨w.heap.size+1+1,5,none⟩ (.int .u64 (n:Nat))).setCell ⟨w.heap.size+1+1,6,none⟩ (.string s)).setCell ⟨w.heap.size+1+1,7,none⟩ (.int .i64 (k:Nat))):=⟨_,rfl⟩
 rw [← hwC]
 have bC:Bx wC (w.heap.size+1+1) 34 (BL d (.slice A d.L.length c) (.slice A' d.U.length c') (n+0) s k):=by rw [hwC];have h:=(AQ (y0:=.string d.name) (y1:=.int .i64 d.st) (y2:=.slice A d.L.length c) (y3:=.slice A' d.U.length c') (y4:=.int .u64 (d.last:Nat)) (y5:=.int .u64 (n:Nat)) (y6:=.string s) (y7:=.int .i64 (k:Nat)) yM).1;first | exact h | (simp only [BL,Nat.zero_add,Nat.add_zero];exact h)
 have gC:Kp (w.heap.size+1+1) wM wC:=by rw [hwC];exact(AQ yM).2
 have vC:=vM.kp (show Calm wM (w.heap.size+1+1) from⟨_,_,yM,rfl⟩) gC
 have qC:=gC.q qM (by omega)
 clear hwM hwC gM yM vM qM gC
 obtain⟨⟨v0,v1,v2,v3,v4,v5,v6,v7⟩,-⟩:=AJ (show Bx wC (w.heap.size+1+1) 34 #[.string d.name,.int .i64 d.st,.slice A d.L.length c,.slice A' d.U.length c',.int .u64 (d.last:Nat),.int .u64 (((n+0):Nat):Int),.string s,.int .i64 (k:Nat)] from bC)
 refine bodyPost_ret (v:=BZ d (.slice A d.L.length c) (.slice A' d.U.length c') (n+0) s k) ?_ rfl ⟨A,c,A',c',rfl,vC,qC⟩
 simp [results,Tryz.results13,go_sem,v0,v1,v2,v3,v4,v5,v6,v7,BZ,BL]
theorem RP(b:Bkt)(lv uv:Value)(a:Actn)(pv:Value)(w:World)(d:Bkt)(n t:Nat)(s:ByteArray)(k:Nat)(hF:BC b (DoR b a) d n t s k)(ha:EA a)(hkey:a.key.size≤1000)(hPl:a.P.length≤1000)(hn:b.name.size≤1000)(hs:smE b.L)(hu:smL b.U)(hv:BktV w b lv uv)(hp:Pces w w.heap.size pv a.P):
  Calls Tryz.prog 13 #[bkt b lv uv,Bc a pv] w fun e w'=>∃ A c A' c',e=.returned (BZ d (.slice A d.L.length c) (.slice A' d.U.length c') (n+t) s k)∧BktV w' d (.slice A d.L.length c) (.slice A' d.U.length c')∧Q w w':=by
 have h9:a.kind%9=0∨a.kind%9=1∨a.kind%9=2∨a.kind%9=3∨a.kind%9=4∨a.kind%9=5∨a.kind%9=6∨a.kind%9=7∨a.kind%9=8:=by omega
 rcases h9 with h | h | h | h | h | h | h | h | h
 ·rw [QK h] at hF
  exact PK b lv uv a pv w d n t s k h hF ha hkey hPl hn hs hu hv hp
 ·rw [QJ h] at hF
  exact PJ b lv uv a pv w d n t s k h hF ha hkey hPl hn hs hu hv hp
 ·rw [QI h] at hF
  exact PI b lv uv a pv w d n t s k h hF ha hkey hPl hn hs hu hv hp
 ·rw [QH h] at hF
  exact PH b lv uv a pv w d n t s k h hF ha hkey hPl hn hs hu hv hp
 ·rw [QG h] at hF
  exact PG b lv uv a pv w d n t s k h hF ha hkey hPl hn hs hu hv hp
 ·rw [QF h] at hF
  exact PF b lv uv a pv w d n t s k h hF ha hkey hPl hn hs hu hv hp
 ·rw [QE h] at hF
  exact PD b lv uv a pv w d n t s k h hF ha hkey hPl hn hs hu hv hp
 ·rw [QD h] at hF
  exact PB b lv uv a pv w d n t s k h hF ha hkey hPl hn hs hu hv hp
 ·rw [QC h] at hF
  exact PA b lv uv a pv w d n t s k h hF ha hkey hPl hn hs hu hv hp
end
end Go.Proofs.YtjjlbbfhmpbneaaGreat
