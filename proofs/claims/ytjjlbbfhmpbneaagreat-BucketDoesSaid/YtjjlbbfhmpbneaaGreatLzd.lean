/-
  Contract of the document's Lay of a bucket. Contract of the document's Whole of a bucket. Contract of the document's Begin of a bucket.
-/
import Derived.Test.YtjjlbbfhmpbneaaGreatLzb
import Derived.Test.YtjjlbbfhmpbneaaGreatLpb
import Derived.Test.YtjjlbbfhmpbneaaGreatLzc
import Derived.Test.YtjjlbbfhmpbneaaGreatLpa
import Derived.Test.YtjjlbbfhmpbneaaGreatLm
namespace Go.Proofs.YtjjlbbfhmpbneaaGreat
open Lib renaming hid → AC
set_option maxHeartbeats 16000000
set_option maxRecDepth 100000
set_option linter.unusedVariables false
set_option linter.unusedSimpArgs false
section
open Go.ChangeShapes Go.WideShapes Go.ChangeAt Go.RowKit Go.Shelf
def Two3(w x:World)(b:Bkt):Prop:=BoxB x w.heap.size b∧BoxB x (w.heap.size+1+1) noB∧Q w x
theorem Two3.on{w x y:World}{b:Bkt}(h:Two3 w x b)(q:Q x y):Two3 w y b:=⟨h.1.on q,h.2.1.on q,h.2.2.trans q⟩
theorem OZ{w:World}{b:Bkt}{A A':Option Addr}{c c':Nat}{o:Obj}(k:BktV w b (.slice A b.L.length c) (.slice A' b.U.length c')):
  Two3 w (((w.alloc (.cells (bcl b (.slice A b.L.length c) (.slice A' b.U.length c')) 26)).alloc o).alloc (.cells #[.string ⟨#[]⟩,.int .i64 0,.slice none 0 0,.slice none 0 0,.int .u64 0] 26)) b:=by
 refine⟨((BoxB.new k).on ((Q.refl _).alloc _)).on ((Q.refl _).alloc _),?_,(((Q.refl w).alloc _).alloc _).alloc _⟩
 have h:BoxB (((w.alloc (.cells (bcl b (.slice A b.L.length c) (.slice A' b.U.length c')) 26)).alloc o).alloc (.cells #[.string ⟨#[]⟩,.int .i64 0,.slice none 0 0,.slice none 0 0,.int .u64 0] 26)) ((w.alloc (.cells (bcl b (.slice A b.L.length c) (.slice A' b.U.length c')) 26)).alloc o).heap.size noB:=BoxB.new (d:=noB) (A:=none) (c:=0) (A':=none) (c':=0) ⟨Ents.nil _ _,Upls.nil _ _⟩
 rw [World.size_alloc,World.size_alloc] at h
 exact h
theorem TT{w:World}{p:Nat}{x0 x1:Value}(h:Bx w p 64 #[x0,x1]):w.cell? ⟨p,0,none⟩=some x0∧w.cell? ⟨p,1,none⟩=some x1:=by
 refine⟨?_,?_⟩ <;> (rw [h.cell];rfl)
theorem Rj{l r:List Upl}{id:Nat}{p:Prt}{t e:Nat}(h:LayC l id p r t e):smL r:=by
 have h9:=h
 cases h
 case yes=>exact JM (Do h9)
 all_goals exact⟨by simp,by simp⟩
theorem Ri{b d:Bkt}{id:Nat}{p:Prt}{n t:Nat}{s:ByteArray}{k:Nat}(hF:BC b (N1 b id p) d n t s k)(hb:okB b):∃ U t0 e,LayC b.U id p U t0 e∧
  ((e≠0∧b=d∧t=0∧e=k)∨(e=0∧20000<Bz {b with U:=U}∧b=d∧t=0∧k=6)∨(e=0∧Bz {b with U:=U}≤20000∧d = {b with U:=U}∧t0=t∧k=0)):=by
 obtain⟨d1,n1,t1,s1,k1,⟨⟨U,hL,rfl⟩,-⟩,h⟩:=DI hF hb
 clear hF
 refine⟨U,t1,k1,hL,?_⟩
 rcases h with⟨h0,h,rfl⟩ | ⟨h0,h1,h,rfl⟩ | ⟨h0,h1,h,rfl⟩
 ·exact .inl ⟨h0,h.1.symm,h.2.2.1,rfl⟩
 ·exact .inr (.inl ⟨h0,h1,h.1.symm,h.2.2.1,rfl⟩)
 ·exact .inr (.inr ⟨h0,h1,h.1,h.2.2.1.symm,rfl⟩)
theorem MH(b:Bkt)(lv uv:Value)(w:World)(id:Nat)(x:Int)(y:ByteArray)(d:Bkt)(n t:Nat)(s:ByteArray)(k:Nat)(hF:BC b (N1 b id ⟨x,y⟩) d n t s k)(hn:b.name.size≤1000)(hs:smE b.L)(hu:smL b.U)(hx:De ⟨x,y⟩)(hv:BktV w b lv uv):
  Calls Tryz.prog 39 #[bkt b lv uv,.int .u64 (id:Nat),.agg #[.int .i64 x,.string y]] w fun e w'=>∃ A c A' c',e=.returned (.tuple #[bkt d (.slice A d.L.length c) (.slice A' d.U.length c'),.int .u32 (t:Nat),.int .i64 (k:Nat)])∧BktV w' d (.slice A d.L.length c) (.slice A' d.U.length c')∧Q w w':=by
 obtain⟨A1,c1,rfl⟩:=hv.1.form
 obtain⟨A2,c2,rfl⟩:=hv.2.form
 have K0:Hid (Two3 w (((w.alloc (.cells (bcl b (.slice A1 b.L.length c1) (.slice A2 b.U.length c2)) 26)).alloc (.cells #[.int .i64 x,.string y] 64)).alloc (.cells #[.string ⟨#[]⟩,.int .i64 0,.slice none 0 0,.slice none 0 0,.int .u64 0] 26)) b):=AC (OZ hv)
 obtain⟨x0,hx0⟩:∃ z,z=(((w.alloc (.cells (bcl b (.slice A1 b.L.length c1) (.slice A2 b.U.length c2)) 26)).alloc (.cells #[.int .i64 x,.string y] 64)).alloc (.cells #[.string ⟨#[]⟩,.int .i64 0,.slice none 0 0,.slice none 0 0,.int .u64 0] 26)):=⟨_,rfl⟩
 have BP0:Hid (Bx x0 (w.heap.size+1) 64 #[.int .i64 x,.string y]):=AC (by
  rw [hx0]
  have h:=(Bx.new (w.alloc (.cells (bcl b (.slice A1 b.L.length c1) (.slice A2 b.U.length c2)) 26)) 64 #[.int .i64 x,.string y]).alloc (.cells #[.string ⟨#[]⟩,.int .i64 0,.slice none 0 0,.slice none 0 0,.int .u64 0] 26)
  rw [World.size_alloc] at h
  exact h)
 have BP:=BP0
 have K0Q:Hid (Q x0 x0):=AC (Q.refl x0)
 clear BP0
 rw [← hx0] at K0
 have LA:=AC fun z v U t e (h:LayC b.U id ⟨x,y⟩ U t e) (hz:Upls z z.heap.size v b.U)=>MG b.U v id ⟨x,y⟩ z U t e h hx hu hz
 have OC:=AC fun z U lv uv (h:smL U) (hz:BktV z {b with U:=U} lv uv)=>Ef {b with U:=U} lv uv z hs h hz
 have HE:=AC (EK hs.1)
 simp only [bkt,prt] at LA OC
 obtain⟨R,hR⟩:=Bw (okB b)
 have RM:=AC fun x lv uv (hx:BktV x b lv uv)=>BU b lv uv x R hR hn hs hu hx
 simp only [bkt] at RM
 have HRR:=AC hR
 clear hR
 have HF:=AC hF
 clear hF hn hs hu hv hx
 rw [bkt]
 go_enter Tryz.func39,Tryz.ntmps39
 simp only [bcl] at hx0
 go_upto_region 1 with fail
 rw [← hx0]
 clear hx0
 obtain⟨g1,g2,g3,g4,hbb,hvv⟩:=K0.out.1
 obtain⟨k0,k1,k2,k3,k4⟩:=AD hbb
 have C1:=AC (RM.out _ _ _ hvv)
 clear hbb hvv RM
 go_wp2_with fail
 refine(C1.out).mono ?_
 rintro e w1 ⟨rfl,q1⟩
 have K1:=AC (K0.out.on q1)
 have QM:=AC q1
 clear C1 k0 k1 k2 k3 k4 K0 q1
 cases R with
 | false=>
   have hnb:¬ okB b:=by rcases HRR.out with⟨h,-⟩ | ⟨-,h⟩;exact absurd h (by decide);exact h
   obtain⟨rfl,rfl,rfl,rfl,rfl⟩:=Dy HF.out hnb
   clear hnb HRR HF LA OC HE BP K0Q QM
   obtain⟨g1,g2,g3,g4,hbb,hvv⟩:=K1.out.1
   obtain⟨k0,k1,k2,k3,k4⟩:=AD hbb
   have VV:=AC hvv
   clear hbb hvv
   have RB:=K1.out.2.1
   have RQ:=K1.out.2.2
   obtain⟨z1,z2,z3,z4,hbz,-⟩:=RB
   obtain⟨y0,y1,y2,y3,y4⟩:=AD hbz
   obtain⟨f0,f1,f2,f3,f4⟩:=AF hbz
   have RX:=AC hbz
   have RV:=AC VV.out
   have RQQ:=AC RQ
   clear RQ hbz
   go_wp2
   (try simp only [Exit.inBlock,Exit.then])
   obtain⟨wC,hwC⟩:∃ wC,wC=(((((w1.setCell ⟨w.heap.size+1+1,0,none⟩ (.string b.name)).setCell ⟨w.heap.size+1+1,1,none⟩ (.int .i64 b.st)).setCell ⟨w.heap.size+1+1,2,none⟩ (.slice g1 b.L.length g2)).setCell ⟨w.heap.size+1+1,3,none⟩ (.slice g3 b.U.length g4)).setCell ⟨w.heap.size+1+1,4,none⟩ (.int .u64 (b.last:Nat))):=⟨_,rfl⟩
   have gk:Kp (w.heap.size+1+1) w1 wC:=by rw [hwC];exact(((((Kp.of (Q.refl _)).set 0 _).set 1 _).set 2 _).set 3 _).set 4 _
   have bD:Bx wC (w.heap.size+1+1) 26 (bcl b (.slice g1 (b.L.length) g2) (.slice g3 (b.U.length) g4)):=by rw [hwC];exact AM (b:=b) RX.out
   have vC:=RV.out.kp (AI RX.out) gk
   have qC:Q w wC:=gk.q RQQ.out (by omega)
   rw [← hwC]
   obtain⟨v0,v1,v2,v3,v4⟩:=AD bD
   refine bodyPost_ret (v:=.tuple #[.agg #[.string b.name,.int .i64 b.st,.slice g1 b.L.length g2,.slice g3 b.U.length g4,.int .u64 (b.last:Nat)],.int .u32 0,.int .i64 1]) ?_ rfl ⟨_,_,_,_,rfl,vC,qC⟩
   simp [results,Tryz.results39,go_sem,v0,v1,v2,v3,v4]
 | true=>
   have hyb:okB b:=by rcases HRR.out with⟨-,h⟩ | ⟨h,-⟩;exact h;exact absurd h (by decide)
   obtain⟨U,t0,e0,hL,hj⟩:=Ri HF.out hyb
   clear HF HRR hyb
   have BP1:=AC (BP.out.on (K0Q.out.trans QM.out))
   obtain⟨g1,g2,g3,g4,hbb,hvv⟩:=K1.out.1
   obtain⟨k0,k1,k2,k3,k4⟩:=AD hbb
   obtain⟨j0,j1⟩:=TT BP1.out
   have C:=AC (LA.out _ _ _ _ _ hL hvv.2)
   have SMU:=AC (Rj hL)
   clear hL hbb hvv LA
   go_wp2_with fail
   refine(C.out).mono ?_
   rintro e w2 ⟨v2,rfl,t2,q2⟩
   have K2:=AC (K1.out.on q2)
   clear C k0 k1 k2 k3 k4 K1 j0 j1 BP1 BP K0Q QM
   rcases hj with⟨h0,rfl,rfl,rfl⟩ | hj
   ·have h1:((e0:Int) != 0)=true:=by simpa using h0
    clear h0 t2 q2 OC HE SMU
    obtain⟨g1,g2,g3,g4,hbb,hvv⟩:=K2.out.1
    obtain⟨k0,k1,k2,k3,k4⟩:=AD hbb
    have VV:=AC hvv
    clear hbb hvv
    have RB:=K2.out.2.1
    have RQ:=K2.out.2.2
    obtain⟨z1,z2,z3,z4,hbz,-⟩:=RB
    obtain⟨y0,y1,y2,y3,y4⟩:=AD hbz
    obtain⟨f0,f1,f2,f3,f4⟩:=AF hbz
    have RX:=AC hbz
    have RV:=AC VV.out
    have RQQ:=AC RQ
    clear RQ hbz
    go_wp2
    (try simp only [Exit.inBlock,Exit.then])
    obtain⟨wC,hwC⟩:∃ wC,wC=(((((w2.setCell ⟨w.heap.size+1+1,0,none⟩ (.string b.name)).setCell ⟨w.heap.size+1+1,1,none⟩ (.int .i64 b.st)).setCell ⟨w.heap.size+1+1,2,none⟩ (.slice g1 b.L.length g2)).setCell ⟨w.heap.size+1+1,3,none⟩ (.slice g3 b.U.length g4)).setCell ⟨w.heap.size+1+1,4,none⟩ (.int .u64 (b.last:Nat))):=⟨_,rfl⟩
    have gk:Kp (w.heap.size+1+1) w2 wC:=by rw [hwC];exact(((((Kp.of (Q.refl _)).set 0 _).set 1 _).set 2 _).set 3 _).set 4 _
    have bD:Bx wC (w.heap.size+1+1) 26 (bcl b (.slice g1 (b.L.length) g2) (.slice g3 (b.U.length) g4)):=by rw [hwC];exact AM (b:=b) RX.out
    have vC:=RV.out.kp (AI RX.out) gk
    have qC:Q w wC:=gk.q RQQ.out (by omega)
    rw [← hwC]
    obtain⟨v0,v1,v2,v3,v4⟩:=AD bD
    refine bodyPost_ret (v:=.tuple #[.agg #[.string b.name,.int .i64 b.st,.slice g1 b.L.length g2,.slice g3 b.U.length g4,.int .u64 (b.last:Nat)],.int .u32 0,.int .i64 (e0:Nat)]) ?_ rfl ⟨_,_,_,_,rfl,vC,qC⟩
    simp [results,Tryz.results39,go_sem,v0,v1,v2,v3,v4]
   have h0:e0=0:=by rcases hj with⟨h,-⟩ | ⟨h,-⟩ <;> exact h
   have h1:((e0:Int) != 0)=false:=by rw [h0];rfl
   obtain⟨A5,c5,rfl⟩:=t2.form
   obtain⟨g1,g2,g3,g4,hbb,hvv⟩:=K2.out.1
   obtain⟨k0,k1,k2,k3,k4⟩:=AD hbb
   have q3:=(Q.refl w2).alloc (.cells #[.string b.name,.int .i64 b.st,.slice g1 b.L.length g2,.slice A5 U.length c5,.int .u64 (b.last:Nat)] 26)
   have ZB:Hid (Bx (w2.alloc (.cells #[.string b.name,.int .i64 b.st,.slice g1 b.L.length g2,.slice A5 U.length c5,.int .u64 (b.last:Nat)] 26)) w2.heap.size 26 (bcl {b with U:=U} (.slice g1 b.L.length g2) (.slice A5 U.length c5))):=AC (Bx.new _ _ _)
   have K3:=AC (K2.out.on q3)
   have V3:Hid (BktV (w2.alloc (.cells #[.string b.name,.int .i64 b.st,.slice g1 b.L.length g2,.slice A5 U.length c5,.int .u64 (b.last:Nat)] 26)) {b with U:=U} (.slice g1 b.L.length g2) (.slice A5 U.length c5)):=AC ⟨(hvv.on q3).1,t2.on q3⟩
   clear hbb hvv t2 q2 q3 K2 h0
   go_upto_region 8 with fail
   clear k0 k1 k2 k3 k4 h1
   obtain⟨w3,hw3⟩:∃ z,z=(w2.alloc (.cells #[.string b.name,.int .i64 b.st,.slice g1 b.L.length g2,.slice A5 U.length c5,.int .u64 (b.last:Nat)] 26)):=⟨_,rfl⟩
   obtain⟨p3,hp3⟩:∃ z,z=w2.heap.size:=⟨_,rfl⟩
   rw [← hw3] at ZB K3 V3 ⊢
   rw [← hp3] at ZB ⊢
   clear hw3 hp3
   obtain⟨k0,k1,k2,k3,k4⟩:=AD ZB.out
   have O1:=AC (OC.out _ _ _ _ SMU.out V3.out)
   obtain⟨O,hO⟩:∃ z,z=Bz {b with U:=U}:=⟨_,rfl⟩
   have HOL:(O:Int)≤200000000000:=by
    have h1:=EF SMU.out
    have h2:=HE.out
    rw [hO];unfold Bz;simp only;omega
   rw [← hO] at O1 hj
   clear hO OC HE SMU
   go_wp2_with fail
   refine(O1.out).mono ?_
   rintro e w4 ⟨rfl,q4⟩
   have K4:=AC (K3.out.on q4)
   have V4:=AC (V3.out.on q4)
   have Z4:=AC (ZB.out.on q4)
   clear O1 k0 k1 k2 k3 k4 K3 V3 ZB q4
   rcases hj with⟨-,hb,rfl,rfl,rfl⟩ | ⟨-,hb,rfl,rfl,rfl⟩
   ·have hb1:(20000:Int)<(O:Int):=by omega
    clear hb
    obtain⟨g1,g2,g3,g4,hbb,hvv⟩:=K4.out.1
    obtain⟨k0,k1,k2,k3,k4⟩:=AD hbb
    have VV:=AC hvv
    clear hbb hvv
    have RB:=K4.out.2.1
    have RQ:=K4.out.2.2
    obtain⟨z1,z2,z3,z4,hbz,-⟩:=RB
    obtain⟨y0,y1,y2,y3,y4⟩:=AD hbz
    obtain⟨f0,f1,f2,f3,f4⟩:=AF hbz
    have RX:=AC hbz
    have RV:=AC VV.out
    have RQQ:=AC RQ
    clear RQ hbz
    go_wp2
    (try simp only [Exit.inBlock,Exit.then])
    obtain⟨wC,hwC⟩:∃ wC,wC=(((((w4.setCell ⟨w.heap.size+1+1,0,none⟩ (.string b.name)).setCell ⟨w.heap.size+1+1,1,none⟩ (.int .i64 b.st)).setCell ⟨w.heap.size+1+1,2,none⟩ (.slice g1 b.L.length g2)).setCell ⟨w.heap.size+1+1,3,none⟩ (.slice g3 b.U.length g4)).setCell ⟨w.heap.size+1+1,4,none⟩ (.int .u64 (b.last:Nat))):=⟨_,rfl⟩
    have gk:Kp (w.heap.size+1+1) w4 wC:=by rw [hwC];exact(((((Kp.of (Q.refl _)).set 0 _).set 1 _).set 2 _).set 3 _).set 4 _
    have bD:Bx wC (w.heap.size+1+1) 26 (bcl b (.slice g1 (b.L.length) g2) (.slice g3 (b.U.length) g4)):=by rw [hwC];exact AM (b:=b) RX.out
    have vC:=RV.out.kp (AI RX.out) gk
    have qC:Q w wC:=gk.q RQQ.out (by omega)
    rw [← hwC]
    obtain⟨v0,v1,v2,v3,v4⟩:=AD bD
    refine bodyPost_ret (v:=.tuple #[.agg #[.string b.name,.int .i64 b.st,.slice g1 b.L.length g2,.slice g3 b.U.length g4,.int .u64 (b.last:Nat)],.int .u32 0,.int .i64 6]) ?_ rfl ⟨_,_,_,_,rfl,vC,qC⟩
    simp [results,Tryz.results39,go_sem,v0,v1,v2,v3,v4]
   ·have hb1:¬ (20000:Int)<(O:Int):=by omega
    clear hb
    obtain⟨k0,k1,k2,k3,k4⟩:=AD Z4.out
    have RB:=K4.out.2.1
    have RQ:=K4.out.2.2
    obtain⟨z1,z2,z3,z4,hbz,-⟩:=RB
    obtain⟨y0,y1,y2,y3,y4⟩:=AD hbz
    obtain⟨f0,f1,f2,f3,f4⟩:=AF hbz
    have RX:=AC hbz
    have RV:=AC V4.out
    have RQQ:=AC RQ
    clear RQ hbz
    go_wp2
    (try simp only [Exit.inBlock,Exit.then])
    obtain⟨wC,hwC⟩:∃ wC,wC=(((((w4.setCell ⟨w.heap.size+1+1,0,none⟩ (.string b.name)).setCell ⟨w.heap.size+1+1,1,none⟩ (.int .i64 b.st)).setCell ⟨w.heap.size+1+1,2,none⟩ (.slice g1 b.L.length g2)).setCell ⟨w.heap.size+1+1,3,none⟩ (.slice A5 U.length c5)).setCell ⟨w.heap.size+1+1,4,none⟩ (.int .u64 (b.last:Nat))):=⟨_,rfl⟩
    have gk:Kp (w.heap.size+1+1) w4 wC:=by rw [hwC];exact(((((Kp.of (Q.refl _)).set 0 _).set 1 _).set 2 _).set 3 _).set 4 _
    have bD:Bx wC (w.heap.size+1+1) 26 (bcl {b with U:=U} (.slice g1 (b.L.length) g2) (.slice A5 (U.length) c5)):=by rw [hwC];exact AM (b:={b with U:=U}) RX.out
    have vC:=RV.out.kp (AI RX.out) gk
    have qC:Q w wC:=gk.q RQQ.out (by omega)
    rw [← hwC]
    obtain⟨v0,v1,v2,v3,v4⟩:=AD bD
    refine bodyPost_ret (v:=.tuple #[.agg #[.string b.name,.int .i64 b.st,.slice g1 b.L.length g2,.slice A5 U.length c5,.int .u64 (b.last:Nat)],.int .u32 (t0:Nat),.int .i64 0]) ?_ rfl ⟨_,_,_,_,rfl,vC,qC⟩
    simp [results,Tryz.results39,go_sem,v0,v1,v2,v3,v4]
end
section
open Go.ChangeShapes Go.WideShapes Go.ChangeAt Go.RowKit Go.Shelf
theorem Sx{l:List Upl}(h:smL l)(id:Nat):smL (rmU l id):=⟨Nat.le_trans (Di l id) h.1,fun x hx=>h.2 x (List.mem_filter.1 hx).1⟩
theorem NC{l:List Upl}{id:Nat}{u:Upl}{e:Nat}(h:FindC l id u e)(hs:smL l):smU u:=by
 cases h
 case yes i hi _ _ _=>exact hs.2 _ (List.getElem_mem hi)
 all_goals exact⟨by show(0:Nat)≤1000;omega,by show(0:Nat)≤1000;omega,by simp [noU]⟩
theorem Qm{w:World}{p:Nat}{x0 x1 x2:Value}(h:Bx w p 107 #[x0,x1,x2]):w.cell? ⟨p,0,none⟩=some x0∧w.cell? ⟨p,1,none⟩=some x1∧w.cell? ⟨p,2,none⟩=some x2:=by
 refine⟨?_,?_,?_⟩ <;> (rw [h.cell];rfl)
theorem Qw{b d:Bkt}{id:Nat}{P:List Pce}{tm:Int}{n t:Nat}{s:ByteArray}{k:Nat}(hF:BC b (Nz b id P tm) d n t s k)(hb:okB b):∃ u e,FindC b.U id u e∧
  ((e≠0∧b=d∧n=0∧s=noS∧e=k)∨(e=0∧∃ S T f,WholeC u P S T f∧((f≠0∧b=d∧n=0∧s=noS∧f=k)∨(f=0∧S.length≤2000∧∃ U d' n' k',BC b (Lc b id) {b with U:=U} 0 0 noS 0∧smL b.U=smL b.U∧AbortC b.U id U 0∧
    BC {b with U:=U} (ID {b with U:=U} u.key (mk S) tm) d' n' 0 noS k'∧((k'≠0∧b=d∧n=0∧s=noS∧k'=k)∨(k'=0∧d'=d∧n'=n∧s=mk T∧k=0)))))):=by
 obtain⟨d1,n1,t1,s1,k1,⟨⟨u,e,hf,hw⟩,-⟩,h⟩:=DI hF hb
 clear hF
 refine⟨u,e,hf,?_⟩
 rcases hw with⟨h0,rfl,rfl,rfl,rfl⟩ | ⟨h0,S,T,f,hW,hw⟩
 ·rcases h with⟨-,h,rfl⟩ | ⟨h,-⟩ | ⟨h,-⟩
  ·exact .inl ⟨h0,h.1.symm,h.2.1,h.2.2.2,rfl⟩
  ·omega
  ·omega
 refine .inr ⟨h0,S,T,f,hW,?_⟩
 rcases hw with⟨h1,rfl,rfl,rfl,rfl⟩ | ⟨h1,rfl,U,g,hA,hP⟩
 ·rcases h with⟨-,h,rfl⟩ | ⟨h,-⟩ | ⟨h,-⟩
  ·exact .inl ⟨h1,h.1.symm,h.2.1,h.2.2.2,rfl⟩
  ·omega
  ·omega
 subst h0
 obtain rfl:=F6 hf hA
 have ho:=hb.2.2.2.2.2.2
 have hoU:Bz {b with U:=U}≤Bz b:=by
  cases hA with
  | yes=>have:=Lw b.U id;unfold Bz;simp only;omega
 have hbU:okB {b with U:=U}:=Dl.2 ⟨Gs (Dl.1 hb).1 hA,by omega⟩
 have hS:S.length≤2000:=by
  subst h1
  cases hW
  omega
 have FA:BC b (Lc b id) {b with U:=U} 0 0 noS 0:=.inr ⟨hb,{b with U:=U},0,0,noS,0,⟨⟨U,hA,rfl⟩,rfl,rfl,rfl⟩,.inr (.inr ⟨rfl,by omega,⟨rfl,rfl,rfl,rfl⟩,rfl⟩)⟩
 rcases h with⟨h2,h,rfl⟩ | ⟨h2,h3,h,rfl⟩ | ⟨h2,h3,h,rfl⟩
 ·exact .inr ⟨h1,hS,U,{b with U:=U},0,k,FA,rfl,hA,.inr ⟨hbU,d1,n1,0,noS,k,⟨hP,rfl,rfl⟩,.inl ⟨h2,⟨rfl,rfl,rfl,rfl⟩,rfl⟩⟩,.inl ⟨h2,h.1.symm,h.2.1,h.2.2.2,rfl⟩⟩
 ·subst h2
  exact .inr ⟨h1,hS,U,{b with U:=U},0,6,FA,rfl,hA,.inr ⟨hbU,d1,n1,0,noS,0,⟨hP,rfl,rfl⟩,.inr (.inl ⟨rfl,h3,⟨rfl,rfl,rfl,rfl⟩,rfl⟩)⟩,.inl ⟨by decide,h.1.symm,h.2.1,h.2.2.2,rfl⟩⟩
 ·subst h2
  exact .inr ⟨h1,hS,U,d1,n1,0,FA,rfl,hA,.inr ⟨hbU,d1,n1,0,noS,0,⟨hP,rfl,rfl⟩,.inr (.inr ⟨rfl,h3,⟨rfl,rfl,rfl,rfl⟩,rfl⟩)⟩,.inr ⟨rfl,h.1.symm,h.2.1.symm,h.2.2.2,rfl⟩⟩
theorem IU(b:Bkt)(lv uv:Value)(w:World)(id:Nat)(P:List Pce)(Az:Option Addr)(cz:Nat)(tm:Int)(d:Bkt)(n t:Nat)(s:ByteArray)(k:Nat)(hF:BC b (Nz b id P tm) d n t s k)(hn:b.name.size≤1000)(hs:smE b.L)(hu:smL b.U)(hP:P.length≤1000)(tl : -9223372036854775808≤tm)(tu:tm≤9223372036854775807)(hz:Pces w w.heap.size (.slice Az P.length cz) P)(hv:BktV w b lv uv):
  Calls Tryz.prog 41 #[bkt b lv uv,.int .u64 (id:Nat),.slice Az P.length cz,.int .i64 tm] w fun e w'=>∃ A c A' c',e=.returned (.tuple #[bkt d (.slice A d.L.length c) (.slice A' d.U.length c'),.int .u64 (n:Nat),.string s,.int .i64 (k:Nat)])∧BktV w' d (.slice A d.L.length c) (.slice A' d.U.length c')∧Q w w':=by
 obtain⟨A1,c1,rfl⟩:=hv.1.form
 obtain⟨A2,c2,rfl⟩:=hv.2.form
 have K0:Hid (Two2 w ((w.alloc (.cells (bcl b (.slice A1 b.L.length c1) (.slice A2 b.U.length c2)) 26)).alloc (.cells #[.string ⟨#[]⟩,.int .i64 0,.slice none 0 0,.slice none 0 0,.int .u64 0] 26)) b):=AC (B5 hv)
 obtain⟨x0,hx0⟩:∃ z,z=((w.alloc (.cells (bcl b (.slice A1 b.L.length c1) (.slice A2 b.U.length c2)) 26)).alloc (.cells #[.string ⟨#[]⟩,.int .i64 0,.slice none 0 0,.slice none 0 0,.int .u64 0] 26)):=⟨_,rfl⟩
 rw [← hx0] at K0
 have FI:=AC fun x v u e (h:FindC b.U id u e) (hx:Upls x x.heap.size v b.U)=>Cs b.U v id x u e h hu hx
 have WH:=AC fun x u v S T f (h:WholeC u P S T f) (h1:smU u) (hx:Prts x x.heap.size v u.L) (q:Q w x)=>KC u v P (.slice Az P.length cz) x S T f h h1 hP hx (hz.on q)
 have AB:=AC fun x lv uv U (h:BC b (Lc b id) {b with U:=U} 0 0 noS 0) (hx:BktV x b lv uv)=>Ej b lv uv x id _ _ _ _ _ h hn hs hu hx
 have LD:=AC fun x U lv uv key data d' n' k' (h:BC {b with U:=U} (ID {b with U:=U} key data tm) d' n' 0 noS k') (hU:smL U) (hk:key.size≤1000) (hd:data.size≤maxLen) (hx:BktV x {b with U:=U} lv uv)=>Dj {b with U:=U} lv uv x key data tm d' n' 0 noS k' h hn hs hU hk hd tl tu hx
 have HU:=AC hu
 simp only [bkt,upl] at FI WH AB LD
 obtain⟨R,hR⟩:=Bw (okB b)
 have RM:=AC fun x lv uv (hx:BktV x b lv uv)=>BU b lv uv x R hR hn hs hu hx
 simp only [bkt] at RM
 have HRR:=AC hR
 clear hR
 have HF:=AC hF
 clear hF hn hs hu hv hP tl tu hz
 rw [bkt]
 go_enter Tryz.func41,Tryz.ntmps41
 simp only [bcl] at hx0
 go_upto_region 1 with fail
 rw [← hx0]
 clear hx0
 obtain⟨g1,g2,g3,g4,hbb,hvv⟩:=K0.out.1
 obtain⟨k0,k1,k2,k3,k4⟩:=AD hbb
 have C1:=AC (RM.out _ _ _ hvv)
 clear hbb hvv RM
 go_wp2_with fail
 refine(C1.out).mono ?_
 rintro e w1 ⟨rfl,q1⟩
 have K1:=AC (K0.out.on q1)
 clear C1 k0 k1 k2 k3 k4 K0 q1
 cases R with
 | false=>
   have hnb:¬ okB b:=by rcases HRR.out with⟨h,-⟩ | ⟨-,h⟩;exact absurd h (by decide);exact h
   obtain⟨rfl,rfl,rfl,rfl,rfl⟩:=Dy HF.out hnb
   clear hnb HRR HF FI WH AB LD HU
   obtain⟨g1,g2,g3,g4,hbb,hvv⟩:=K1.out.1
   obtain⟨k0,k1,k2,k3,k4⟩:=AD hbb
   have VV:=AC hvv
   clear hbb hvv
   have RB:=K1.out.2.1
   have RQ:=K1.out.2.2
   obtain⟨z1,z2,z3,z4,hbz,-⟩:=RB
   obtain⟨y0,y1,y2,y3,y4⟩:=AD hbz
   obtain⟨f0,f1,f2,f3,f4⟩:=AF hbz
   have RX:=AC hbz
   have RV:=AC VV.out
   have RQQ:=AC RQ
   clear RQ hbz
   go_wp2
   (try simp only [Exit.inBlock,Exit.then])
   obtain⟨wC,hwC⟩:∃ wC,wC=(((((w1.setCell ⟨w.heap.size+1,0,none⟩ (.string b.name)).setCell ⟨w.heap.size+1,1,none⟩ (.int .i64 b.st)).setCell ⟨w.heap.size+1,2,none⟩ (.slice g1 b.L.length g2)).setCell ⟨w.heap.size+1,3,none⟩ (.slice g3 b.U.length g4)).setCell ⟨w.heap.size+1,4,none⟩ (.int .u64 (b.last:Nat))):=⟨_,rfl⟩
   have gk:Kp (w.heap.size+1) w1 wC:=by rw [hwC];exact(((((Kp.of (Q.refl _)).set 0 _).set 1 _).set 2 _).set 3 _).set 4 _
   have bD:Bx wC (w.heap.size+1) 26 (bcl b (.slice g1 (b.L.length) g2) (.slice g3 (b.U.length) g4)):=by rw [hwC];exact AM (b:=b) RX.out
   have vC:=RV.out.kp (AI RX.out) gk
   have qC:Q w wC:=gk.q RQQ.out (by omega)
   rw [← hwC]
   obtain⟨v0,v1,v2,v3,v4⟩:=AD bD
   refine bodyPost_ret (v:=.tuple #[.agg #[.string b.name,.int .i64 b.st,.slice g1 b.L.length g2,.slice g3 b.U.length g4,.int .u64 (b.last:Nat)],.int .u64 0,.string ⟨#[]⟩,.int .i64 1]) ?_ rfl ⟨_,_,_,_,rfl,vC,qC⟩
   simp [results,Tryz.results41,go_sem,v0,v1,v2,v3,v4]
 | true=>
   have hyb:okB b:=by rcases HRR.out with⟨-,h⟩ | ⟨h,-⟩;exact h;exact absurd h (by decide)
   obtain⟨u,e0,hf,hj⟩:=Qw HF.out hyb
   clear HF HRR hyb
   obtain⟨g1,g2,g3,g4,hbb,hvv⟩:=K1.out.1
   obtain⟨k0,k1,k2,k3,k4⟩:=AD hbb
   have C:=AC (FI.out _ _ _ _ hf hvv.2)
   have SMU:=AC (NC hf HU.out)
   clear hf hbb hvv FI
   go_wp2_with fail
   refine(C.out).mono ?_
   rintro e w2 ⟨v2,rfl,t2,q2⟩
   have K2:=AC (K1.out.on q2)
   have T2:=AC (t2.on q2)
   obtain⟨AU,cU,rfl⟩:=t2.form
   clear C k0 k1 k2 k3 k4 K1 t2 q2
   go_upto_region 4 with fail
   have q3:=(Q.refl w2).alloc (.cells #[.int .u64 (u.id:Nat),.string u.key,.slice AU u.L.length cU] 107)
   have UB:Hid (Bx (w2.alloc (.cells #[.int .u64 (u.id:Nat),.string u.key,.slice AU u.L.length cU] 107)) w2.heap.size 107 #[.int .u64 (u.id:Nat),.string u.key,.slice AU u.L.length cU]):=AC (Bx.new _ _ _)
   have K3:=AC (K2.out.on q3)
   have T3:=AC (T2.out.on q3)
   clear K2 T2 q3
   obtain⟨w3,hw3⟩:∃ z,z=(w2.alloc (.cells #[.int .u64 (u.id:Nat),.string u.key,.slice AU u.L.length cU] 107)):=⟨_,rfl⟩
   obtain⟨p3,hp3⟩:∃ z,z=w2.heap.size:=⟨_,rfl⟩
   rw [← hw3] at UB K3 T3 ⊢
   rw [← hp3] at UB ⊢
   clear hw3 hp3
   rcases hj with⟨h0,rfl,rfl,rfl,rfl⟩ | ⟨h0,S,T,f,hW,hj⟩
   ·have h1:((e0:Int) != 0)=true:=by simpa using h0
    clear h0 WH AB LD HU SMU UB T3
    obtain⟨g1,g2,g3,g4,hbb,hvv⟩:=K3.out.1
    obtain⟨k0,k1,k2,k3,k4⟩:=AD hbb
    have VV:=AC hvv
    clear hbb hvv
    have RB:=K3.out.2.1
    have RQ:=K3.out.2.2
    obtain⟨z1,z2,z3,z4,hbz,-⟩:=RB
    obtain⟨y0,y1,y2,y3,y4⟩:=AD hbz
    obtain⟨f0,f1,f2,f3,f4⟩:=AF hbz
    have RX:=AC hbz
    have RV:=AC VV.out
    have RQQ:=AC RQ
    clear RQ hbz
    go_wp2
    (try simp only [Exit.inBlock,Exit.then])
    obtain⟨wC,hwC⟩:∃ wC,wC=(((((w3.setCell ⟨w.heap.size+1,0,none⟩ (.string b.name)).setCell ⟨w.heap.size+1,1,none⟩ (.int .i64 b.st)).setCell ⟨w.heap.size+1,2,none⟩ (.slice g1 b.L.length g2)).setCell ⟨w.heap.size+1,3,none⟩ (.slice g3 b.U.length g4)).setCell ⟨w.heap.size+1,4,none⟩ (.int .u64 (b.last:Nat))):=⟨_,rfl⟩
    have gk:Kp (w.heap.size+1) w3 wC:=by rw [hwC];exact(((((Kp.of (Q.refl _)).set 0 _).set 1 _).set 2 _).set 3 _).set 4 _
    have bD:Bx wC (w.heap.size+1) 26 (bcl b (.slice g1 (b.L.length) g2) (.slice g3 (b.U.length) g4)):=by rw [hwC];exact AM (b:=b) RX.out
    have vC:=RV.out.kp (AI RX.out) gk
    have qC:Q w wC:=gk.q RQQ.out (by omega)
    rw [← hwC]
    obtain⟨v0,v1,v2,v3,v4⟩:=AD bD
    refine bodyPost_ret (v:=.tuple #[.agg #[.string b.name,.int .i64 b.st,.slice g1 b.L.length g2,.slice g3 b.U.length g4,.int .u64 (b.last:Nat)],.int .u64 0,.string ⟨#[]⟩,.int .i64 (e0:Nat)]) ?_ rfl ⟨_,_,_,_,rfl,vC,qC⟩
    simp [results,Tryz.results41,go_sem,v0,v1,v2,v3,v4]
   have h1:((e0:Int) != 0)=false:=by rw [h0];rfl
   obtain⟨j0,j1,j2⟩:=Qm UB.out
   have C:=AC (WH.out _ _ _ _ _ _ hW SMU.out T3.out K3.out.2.2)
   clear hW WH T3 h0
   go_wp2_with fail
   refine(C.out).mono ?_
   rintro e w4 ⟨rfl,q4⟩
   have K4:=AC (K3.out.on q4)
   have UB4:=AC (UB.out.on q4)
   clear C K3 UB j0 j1 j2 h1 q4
   rcases hj with⟨h0,rfl,rfl,rfl,rfl⟩ | ⟨h0,hS,U,d',n',k',hFA,-,hA,hFL,hj⟩
   ·have h1:((f:Int) != 0)=true:=by simpa using h0
    clear h0 AB LD HU SMU UB4
    obtain⟨g1,g2,g3,g4,hbb,hvv⟩:=K4.out.1
    obtain⟨k0,k1,k2,k3,k4⟩:=AD hbb
    have VV:=AC hvv
    clear hbb hvv
    have RB:=K4.out.2.1
    have RQ:=K4.out.2.2
    obtain⟨z1,z2,z3,z4,hbz,-⟩:=RB
    obtain⟨y0,y1,y2,y3,y4⟩:=AD hbz
    obtain⟨f0,f1,f2,f3,f4⟩:=AF hbz
    have RX:=AC hbz
    have RV:=AC VV.out
    have RQQ:=AC RQ
    clear RQ hbz
    go_wp2
    (try simp only [Exit.inBlock,Exit.then])
    obtain⟨wC,hwC⟩:∃ wC,wC=(((((w4.setCell ⟨w.heap.size+1,0,none⟩ (.string b.name)).setCell ⟨w.heap.size+1,1,none⟩ (.int .i64 b.st)).setCell ⟨w.heap.size+1,2,none⟩ (.slice g1 b.L.length g2)).setCell ⟨w.heap.size+1,3,none⟩ (.slice g3 b.U.length g4)).setCell ⟨w.heap.size+1,4,none⟩ (.int .u64 (b.last:Nat))):=⟨_,rfl⟩
    have gk:Kp (w.heap.size+1) w4 wC:=by rw [hwC];exact(((((Kp.of (Q.refl _)).set 0 _).set 1 _).set 2 _).set 3 _).set 4 _
    have bD:Bx wC (w.heap.size+1) 26 (bcl b (.slice g1 (b.L.length) g2) (.slice g3 (b.U.length) g4)):=by rw [hwC];exact AM (b:=b) RX.out
    have vC:=RV.out.kp (AI RX.out) gk
    have qC:Q w wC:=gk.q RQQ.out (by omega)
    rw [← hwC]
    obtain⟨v0,v1,v2,v3,v4⟩:=AD bD
    refine bodyPost_ret (v:=.tuple #[.agg #[.string b.name,.int .i64 b.st,.slice g1 b.L.length g2,.slice g3 b.U.length g4,.int .u64 (b.last:Nat)],.int .u64 0,.string ⟨#[]⟩,.int .i64 (f:Nat)]) ?_ rfl ⟨_,_,_,_,rfl,vC,qC⟩
    simp [results,Tryz.results41,go_sem,v0,v1,v2,v3,v4]
   have h1:((f:Int) != 0)=false:=by rw [h0];rfl
   obtain⟨g1,g2,g3,g4,hbb,hvv⟩:=K4.out.1
   obtain⟨k0,k1,k2,k3,k4⟩:=AD hbb
   have C:=AC (AB.out _ _ _ _ hFA hvv)
   have SMR:Hid (smL U):=AC (by cases hA;exact Sx HU.out _)
   clear hFA hA hbb hvv AB HU h0
   go_wp2_with fail
   refine(C.out).mono ?_
   rintro e w5 ⟨A5,c5,A6,c6,rfl,v5,q5⟩
   have q6:=q5.alloc (.cells #[.string b.name,.int .i64 b.st,.slice A5 b.L.length c5,.slice A6 U.length c6,.int .u64 (b.last:Nat)] 26)
   have RB:Hid (Bx (w5.alloc (.cells #[.string b.name,.int .i64 b.st,.slice A5 b.L.length c5,.slice A6 U.length c6,.int .u64 (b.last:Nat)] 26)) w5.heap.size 26 (bcl {b with U:=U} (.slice A5 b.L.length c5) (.slice A6 U.length c6))):=AC (Bx.new _ _ _)
   have K6:=AC (K4.out.on q6)
   have UB6:=AC (UB4.out.on q6)
   have V6:Hid (BktV (w5.alloc (.cells #[.string b.name,.int .i64 b.st,.slice A5 b.L.length c5,.slice A6 U.length c6,.int .u64 (b.last:Nat)] 26)) {b with U:=U} (.slice A5 b.L.length c5) (.slice A6 U.length c6)):=AC (v5.on ((Q.refl w5).alloc (.cells #[.string b.name,.int .i64 b.st,.slice A5 b.L.length c5,.slice A6 U.length c6,.int .u64 (b.last:Nat)] 26)))
   clear C K4 UB4 v5 q5 q6 k0 k1 k2 k3 k4 h1
   go_upto_region 10 with fail
   obtain⟨w6,hw6⟩:∃ z,z=(w5.alloc (.cells #[.string b.name,.int .i64 b.st,.slice A5 b.L.length c5,.slice A6 U.length c6,.int .u64 (b.last:Nat)] 26)):=⟨_,rfl⟩
   obtain⟨p6,hp6⟩:∃ z,z=w5.heap.size:=⟨_,rfl⟩
   rw [← hw6] at RB K6 UB6 V6 ⊢
   rw [← hp6] at RB ⊢
   clear hw6 hp6
   obtain⟨k0,k1,k2,k3,k4⟩:=AD RB.out
   obtain⟨j0,j1,j2⟩:=Qm UB6.out
   have C:=AC (LD.out _ _ _ _ _ _ _ _ _ hFL SMR.out SMU.out.1 (by rw [BW];unfold maxLen;omega) V6.out)
   clear LD hFL SMR SMU V6 hS
   go_wp2_with fail
   refine(C.out).mono ?_
   rintro e w7 ⟨A7,c7,A8,c8,rfl,v7,q7⟩
   have q8:=q7.alloc (.cells #[.string d'.name,.int .i64 d'.st,.slice A7 d'.L.length c7,.slice A8 d'.U.length c8,.int .u64 (d'.last:Nat)] 26)
   have DB:Hid (Bx (w7.alloc (.cells #[.string d'.name,.int .i64 d'.st,.slice A7 d'.L.length c7,.slice A8 d'.U.length c8,.int .u64 (d'.last:Nat)] 26)) w7.heap.size 26 (bcl d' (.slice A7 d'.L.length c7) (.slice A8 d'.U.length c8))):=AC (Bx.new _ _ _)
   have K8:=AC (K6.out.on q8)
   have V8:=AC (v7.on ((Q.refl w7).alloc (.cells #[.string d'.name,.int .i64 d'.st,.slice A7 d'.L.length c7,.slice A8 d'.U.length c8,.int .u64 (d'.last:Nat)] 26)))
   clear C K6 UB6 RB v7 q7 q8 k0 k1 k2 k3 k4 j0 j1 j2
   go_upto_region 11 with fail
   obtain⟨w8,hw8⟩:∃ z,z=(w7.alloc (.cells #[.string d'.name,.int .i64 d'.st,.slice A7 d'.L.length c7,.slice A8 d'.U.length c8,.int .u64 (d'.last:Nat)] 26)):=⟨_,rfl⟩
   obtain⟨p8,hp8⟩:∃ z,z=w7.heap.size:=⟨_,rfl⟩
   rw [← hw8] at DB K8 V8 ⊢
   rw [← hp8] at DB ⊢
   clear hw8 hp8
   rcases hj with⟨h0,rfl,rfl,rfl,rfl⟩ | ⟨h0,rfl,rfl,rfl,rfl⟩
   ·have h1:((k':Int) != 0)=true:=by simpa using h0
    clear h0 V8 DB
    obtain⟨g1,g2,g3,g4,hbb,hvv⟩:=K8.out.1
    obtain⟨k0,k1,k2,k3,k4⟩:=AD hbb
    have VV:=AC hvv
    clear hbb hvv
    have RB:=K8.out.2.1
    have RQ:=K8.out.2.2
    obtain⟨z1,z2,z3,z4,hbz,-⟩:=RB
    obtain⟨y0,y1,y2,y3,y4⟩:=AD hbz
    obtain⟨f0,f1,f2,f3,f4⟩:=AF hbz
    have RX:=AC hbz
    have RV:=AC VV.out
    have RQQ:=AC RQ
    clear RQ hbz
    go_wp2
    (try simp only [Exit.inBlock,Exit.then])
    obtain⟨wC,hwC⟩:∃ wC,wC=(((((w8.setCell ⟨w.heap.size+1,0,none⟩ (.string b.name)).setCell ⟨w.heap.size+1,1,none⟩ (.int .i64 b.st)).setCell ⟨w.heap.size+1,2,none⟩ (.slice g1 b.L.length g2)).setCell ⟨w.heap.size+1,3,none⟩ (.slice g3 b.U.length g4)).setCell ⟨w.heap.size+1,4,none⟩ (.int .u64 (b.last:Nat))):=⟨_,rfl⟩
    have gk:Kp (w.heap.size+1) w8 wC:=by rw [hwC];exact(((((Kp.of (Q.refl _)).set 0 _).set 1 _).set 2 _).set 3 _).set 4 _
    have bD:Bx wC (w.heap.size+1) 26 (bcl b (.slice g1 (b.L.length) g2) (.slice g3 (b.U.length) g4)):=by rw [hwC];exact AM (b:=b) RX.out
    have vC:=RV.out.kp (AI RX.out) gk
    have qC:Q w wC:=gk.q RQQ.out (by omega)
    rw [← hwC]
    obtain⟨v0,v1,v2,v3,v4⟩:=AD bD
    refine bodyPost_ret (v:=.tuple #[.agg #[.string b.name,.int .i64 b.st,.slice g1 b.L.length g2,.slice g3 b.U.length g4,.int .u64 (b.last:Nat)],.int .u64 0,.string ⟨#[]⟩,.int .i64 (k':Nat)]) ?_ rfl ⟨_,_,_,_,rfl,vC,qC⟩
    simp [results,Tryz.results41,go_sem,v0,v1,v2,v3,v4]
   ·have h1:((k':Int) != 0)=false:=by rw [h0];rfl
    clear h0
    obtain⟨k0,k1,k2,k3,k4⟩:=AD DB.out
    have RB:=K8.out.2.1
    have RQ:=K8.out.2.2
    obtain⟨z1,z2,z3,z4,hbz,-⟩:=RB
    obtain⟨y0,y1,y2,y3,y4⟩:=AD hbz
    obtain⟨f0,f1,f2,f3,f4⟩:=AF hbz
    have RX:=AC hbz
    have RV:=AC V8.out
    have RQQ:=AC RQ
    clear RQ hbz
    go_wp2
    (try simp only [Exit.inBlock,Exit.then])
    obtain⟨wC,hwC⟩:∃ wC,wC=(((((w8.setCell ⟨w.heap.size+1,0,none⟩ (.string d'.name)).setCell ⟨w.heap.size+1,1,none⟩ (.int .i64 d'.st)).setCell ⟨w.heap.size+1,2,none⟩ (.slice A7 d'.L.length c7)).setCell ⟨w.heap.size+1,3,none⟩ (.slice A8 d'.U.length c8)).setCell ⟨w.heap.size+1,4,none⟩ (.int .u64 (d'.last:Nat))):=⟨_,rfl⟩
    have gk:Kp (w.heap.size+1) w8 wC:=by rw [hwC];exact(((((Kp.of (Q.refl _)).set 0 _).set 1 _).set 2 _).set 3 _).set 4 _
    have bD:Bx wC (w.heap.size+1) 26 (bcl d' (.slice A7 (d'.L.length) c7) (.slice A8 (d'.U.length) c8)):=by rw [hwC];exact AM (b:=d') RX.out
    have vC:=RV.out.kp (AI RX.out) gk
    have qC:Q w wC:=gk.q RQQ.out (by omega)
    rw [← hwC]
    obtain⟨v0,v1,v2,v3,v4⟩:=AD bD
    refine bodyPost_ret (v:=.tuple #[.agg #[.string d'.name,.int .i64 d'.st,.slice A7 d'.L.length c7,.slice A8 d'.U.length c8,.int .u64 (d'.last:Nat)],.int .u64 (n':Nat),.string (mk T),.int .i64 0]) ?_ rfl ⟨_,_,_,_,rfl,vC,qC⟩
    simp [results,Tryz.results41,go_sem,v0,v1,v2,v3,v4]
end
section
open Go.ChangeShapes Go.WideShapes Go.ChangeAt Go.RowKit Go.Shelf
theorem Sb{b d:Bkt}{key:ByteArray}{n t:Nat}{s:ByteArray}{k:Nat}(hF:BC b (N7 b key) d n t s k)(hb:okB b):(BD 1 60 ko key=false∧b=d∧n=0∧k=1)∨(BD 1 60 ko key=true∧281474976710655≤b.last∧b=d∧n=0∧k=6)∨
  (BD 1 60 ko key=true∧b.last<281474976710655∧∃ U e,BeginC b.U (b.last+1) key U e∧((e≠0∧b=d∧n=0∧e=k)∨(e=0∧d = {b with U:=U,last:=b.last+1}∧n=b.last+1∧k=0))):=by
 obtain⟨d1,n1,t1,s1,k1,⟨hr,-⟩,h⟩:=DI hF hb
 clear hF
 have ho:=hb.2.2.2.2.2.2
 rcases hr with⟨hk,rfl,rfl,rfl⟩ | ⟨hk,b1,m1,k2,hg,hr⟩
 ·rcases h with⟨-,h,rfl⟩ | ⟨h,-⟩ | ⟨h,-⟩
  ·exact .inl ⟨hk,h.1.symm,h.2.1,rfl⟩
  ·omega
  ·omega
 ·rcases hg with⟨hl,rfl,rfl,rfl⟩ | ⟨hl,rfl,rfl,rfl⟩
  ·rcases hr with⟨-,-,-,rfl⟩ | ⟨h0,-⟩
   ·rcases h with⟨-,h,rfl⟩ | ⟨h,-⟩ | ⟨h,-⟩
    ·exact .inr (.inl ⟨hk,hl,h.1.symm,h.2.1,rfl⟩)
    ·omega
    ·omega
   ·omega
  ·rcases hr with⟨h0,-⟩ | ⟨-,rfl,U,hB,rfl⟩
   ·exact absurd rfl h0
   ·refine .inr (.inr ⟨hk,hl,U,k1,hB,?_⟩)
    rcases h with⟨h0,h,rfl⟩ | ⟨rfl,h,-⟩ | ⟨rfl,-,h,rfl⟩
    ·exact .inl ⟨h0,h.1.symm,h.2.1,rfl⟩
    ·cases hB with
     | yes=>
       have e:Bz (⟨b.name,b.st,b.L,b.U ++ [⟨b.last+1,key,[]⟩],b.last+1⟩:Bkt)=Bz b:=by
        unfold Bz;simp [DD,D4]
       have h2:20000<Bz (⟨b.name,b.st,b.L,b.U ++ [⟨b.last+1,key,[]⟩],b.last+1⟩:Bkt):=h
       rw [e] at h2
       omega
    ·exact .inr ⟨rfl,h.1,h.2.1,rfl⟩
theorem Ib(b:Bkt)(lv uv:Value)(w:World)(key:ByteArray)(d:Bkt)(n t:Nat)(s:ByteArray)(k:Nat)(hF:BC b (N7 b key) d n t s k)(hn:b.name.size≤1000)(hs:smE b.L)(hu:smL b.U)(hk:key.size≤1000)(hv:BktV w b lv uv):
  Calls Tryz.prog 38 #[bkt b lv uv,.string key] w fun e w'=>∃ A c A' c',e=.returned (.tuple #[bkt d (.slice A d.L.length c) (.slice A' d.U.length c'),.int .u64 (n:Nat),.int .i64 (k:Nat)])∧BktV w' d (.slice A d.L.length c) (.slice A' d.U.length c')∧Q w w':=by
 obtain⟨A1,c1,rfl⟩:=hv.1.form
 obtain⟨A2,c2,rfl⟩:=hv.2.form
 have K0:Hid (Two2 w ((w.alloc (.cells (bcl b (.slice A1 b.L.length c1) (.slice A2 b.U.length c2)) 26)).alloc (.cells #[.string ⟨#[]⟩,.int .i64 0,.slice none 0 0,.slice none 0 0,.int .u64 0] 26)) b):=AC (B5 hv)
 obtain⟨x0,hx0⟩:∃ z,z=((w.alloc (.cells (bcl b (.slice A1 b.L.length c1) (.slice A2 b.U.length c2)) 26)).alloc (.cells #[.string ⟨#[]⟩,.int .i64 0,.slice none 0 0,.slice none 0 0,.int .u64 0] 26)):=⟨_,rfl⟩
 rw [← hx0] at K0
 have BG:=AC fun x v (m:Nat) U e (h:BeginC b.U m key U e) (hx:Upls x x.heap.size v b.U)=>Ia b.U v m key x U e h hu hk hx
 have KY:=AC fun x=>Bn key x hk
 obtain⟨R,hR⟩:=Bw (okB b)
 have RM:=AC fun x lv uv (hx:BktV x b lv uv)=>BU b lv uv x R hR hn hs hu hx
 simp only [bkt] at RM
 have HRR:=AC hR
 clear hR
 have HF:=AC hF
 clear hF hn hs hu hv hk
 rw [bkt]
 go_enter Tryz.func38,Tryz.ntmps38
 simp only [bcl] at hx0
 go_upto_region 1 with fail
 rw [← hx0]
 clear hx0
 obtain⟨g1,g2,g3,g4,hbb,hvv⟩:=K0.out.1
 obtain⟨k0,k1,k2,k3,k4⟩:=AD hbb
 have C1:=AC (RM.out _ _ _ hvv)
 clear hbb hvv RM
 go_wp2_with fail
 refine(C1.out).mono ?_
 rintro e w1 ⟨rfl,q1⟩
 have K1:=AC (K0.out.on q1)
 clear C1 k0 k1 k2 k3 k4 K0 q1
 cases R with
 | false=>
   have hnb:¬ okB b:=by rcases HRR.out with⟨h,-⟩ | ⟨-,h⟩;exact absurd h (by decide);exact h
   obtain⟨rfl,rfl,rfl,rfl,rfl⟩:=Dy HF.out hnb
   clear hnb HRR HF BG KY
   obtain⟨g1,g2,g3,g4,hbb,hvv⟩:=K1.out.1
   obtain⟨k0,k1,k2,k3,k4⟩:=AD hbb
   have VV:=AC hvv
   clear hbb hvv
   have RB:=K1.out.2.1
   have RQ:=K1.out.2.2
   obtain⟨z1,z2,z3,z4,hbz,-⟩:=RB
   obtain⟨y0,y1,y2,y3,y4⟩:=AD hbz
   obtain⟨f0,f1,f2,f3,f4⟩:=AF hbz
   have RX:=AC hbz
   have RV:=AC VV.out
   have RQQ:=AC RQ
   clear RQ hbz
   go_wp2
   (try simp only [Exit.inBlock,Exit.then])
   obtain⟨wC,hwC⟩:∃ wC,wC=(((((w1.setCell ⟨w.heap.size+1,0,none⟩ (.string b.name)).setCell ⟨w.heap.size+1,1,none⟩ (.int .i64 b.st)).setCell ⟨w.heap.size+1,2,none⟩ (.slice g1 b.L.length g2)).setCell ⟨w.heap.size+1,3,none⟩ (.slice g3 b.U.length g4)).setCell ⟨w.heap.size+1,4,none⟩ (.int .u64 (b.last:Nat))):=⟨_,rfl⟩
   have gk:Kp (w.heap.size+1) w1 wC:=by rw [hwC];exact(((((Kp.of (Q.refl _)).set 0 _).set 1 _).set 2 _).set 3 _).set 4 _
   have bD:Bx wC (w.heap.size+1) 26 (bcl b (.slice g1 (b.L.length) g2) (.slice g3 (b.U.length) g4)):=by rw [hwC];exact AM (b:=b) RX.out
   have vC:=RV.out.kp (AI RX.out) gk
   have qC:Q w wC:=gk.q RQQ.out (by omega)
   rw [← hwC]
   obtain⟨v0,v1,v2,v3,v4⟩:=AD bD
   refine bodyPost_ret (v:=.tuple #[.agg #[.string b.name,.int .i64 b.st,.slice g1 b.L.length g2,.slice g3 b.U.length g4,.int .u64 (b.last:Nat)],.int .u64 0,.int .i64 1]) ?_ rfl ⟨_,_,_,_,rfl,vC,qC⟩
   simp [results,Tryz.results38,go_sem,v0,v1,v2,v3,v4]
 | true=>
   have hyb:okB b:=by rcases HRR.out with⟨-,h⟩ | ⟨h,-⟩;exact h;exact absurd h (by decide)
   rcases Sb HF.out hyb with⟨hk0,rfl,rfl,rfl⟩ | ⟨hk0,hla,rfl,rfl,rfl⟩ | ⟨hk0,hla,U,e0,hB,hj⟩
   ·rw [hk0] at KY
    clear HF HRR hyb hk0 BG
    go_wp2_with fail
    refine(KY.out _).mono ?_
    rintro e w2 ⟨rfl,rfl⟩
    clear KY
    obtain⟨g1,g2,g3,g4,hbb,hvv⟩:=K1.out.1
    obtain⟨k0,k1,k2,k3,k4⟩:=AD hbb
    have VV:=AC hvv
    clear hbb hvv
    have RB:=K1.out.2.1
    have RQ:=K1.out.2.2
    obtain⟨z1,z2,z3,z4,hbz,-⟩:=RB
    obtain⟨y0,y1,y2,y3,y4⟩:=AD hbz
    obtain⟨f0,f1,f2,f3,f4⟩:=AF hbz
    have RX:=AC hbz
    have RV:=AC VV.out
    have RQQ:=AC RQ
    clear RQ hbz
    go_wp2
    (try simp only [Exit.inBlock,Exit.then])
    obtain⟨wC,hwC⟩:∃ wC,wC=(((((w1.setCell ⟨w.heap.size+1,0,none⟩ (.string b.name)).setCell ⟨w.heap.size+1,1,none⟩ (.int .i64 b.st)).setCell ⟨w.heap.size+1,2,none⟩ (.slice g1 b.L.length g2)).setCell ⟨w.heap.size+1,3,none⟩ (.slice g3 b.U.length g4)).setCell ⟨w.heap.size+1,4,none⟩ (.int .u64 (b.last:Nat))):=⟨_,rfl⟩
    have gk:Kp (w.heap.size+1) w1 wC:=by rw [hwC];exact(((((Kp.of (Q.refl _)).set 0 _).set 1 _).set 2 _).set 3 _).set 4 _
    have bD:Bx wC (w.heap.size+1) 26 (bcl b (.slice g1 (b.L.length) g2) (.slice g3 (b.U.length) g4)):=by rw [hwC];exact AM (b:=b) RX.out
    have vC:=RV.out.kp (AI RX.out) gk
    have qC:Q w wC:=gk.q RQQ.out (by omega)
    rw [← hwC]
    obtain⟨v0,v1,v2,v3,v4⟩:=AD bD
    refine bodyPost_ret (v:=.tuple #[.agg #[.string b.name,.int .i64 b.st,.slice g1 b.L.length g2,.slice g3 b.U.length g4,.int .u64 (b.last:Nat)],.int .u64 0,.int .i64 1]) ?_ rfl ⟨_,_,_,_,rfl,vC,qC⟩
    simp [results,Tryz.results38,go_sem,v0,v1,v2,v3,v4]
   ·rw [hk0] at KY
    have h7:(281474976710655:Int)≤(b.last:Int):=by omega
    clear HF HRR hyb hk0 BG hla
    obtain⟨g1,g2,g3,g4,hbb,-⟩:=K1.out.1
    obtain⟨k0,k1,k2,k3,k4⟩:=AD hbb
    clear hbb
    go_wp2_with fail
    refine(KY.out _).mono ?_
    rintro e w2 ⟨rfl,rfl⟩
    go_upto_region 4 with fail
    clear KY k0 k1 k2 k3 k4 h7
    obtain⟨g1,g2,g3,g4,hbb,hvv⟩:=K1.out.1
    obtain⟨k0,k1,k2,k3,k4⟩:=AD hbb
    have VV:=AC hvv
    clear hbb hvv
    have RB:=K1.out.2.1
    have RQ:=K1.out.2.2
    obtain⟨z1,z2,z3,z4,hbz,-⟩:=RB
    obtain⟨y0,y1,y2,y3,y4⟩:=AD hbz
    obtain⟨f0,f1,f2,f3,f4⟩:=AF hbz
    have RX:=AC hbz
    have RV:=AC VV.out
    have RQQ:=AC RQ
    clear RQ hbz
    go_wp2
    (try simp only [Exit.inBlock,Exit.then])
    obtain⟨wC,hwC⟩:∃ wC,wC=(((((w1.setCell ⟨w.heap.size+1,0,none⟩ (.string b.name)).setCell ⟨w.heap.size+1,1,none⟩ (.int .i64 b.st)).setCell ⟨w.heap.size+1,2,none⟩ (.slice g1 b.L.length g2)).setCell ⟨w.heap.size+1,3,none⟩ (.slice g3 b.U.length g4)).setCell ⟨w.heap.size+1,4,none⟩ (.int .u64 (b.last:Nat))):=⟨_,rfl⟩
    have gk:Kp (w.heap.size+1) w1 wC:=by rw [hwC];exact(((((Kp.of (Q.refl _)).set 0 _).set 1 _).set 2 _).set 3 _).set 4 _
    have bD:Bx wC (w.heap.size+1) 26 (bcl b (.slice g1 (b.L.length) g2) (.slice g3 (b.U.length) g4)):=by rw [hwC];exact AM (b:=b) RX.out
    have vC:=RV.out.kp (AI RX.out) gk
    have qC:Q w wC:=gk.q RQQ.out (by omega)
    rw [← hwC]
    obtain⟨v0,v1,v2,v3,v4⟩:=AD bD
    refine bodyPost_ret (v:=.tuple #[.agg #[.string b.name,.int .i64 b.st,.slice g1 b.L.length g2,.slice g3 b.U.length g4,.int .u64 (b.last:Nat)],.int .u64 0,.int .i64 6]) ?_ rfl ⟨_,_,_,_,rfl,vC,qC⟩
    simp [results,Tryz.results38,go_sem,v0,v1,v2,v3,v4]
   rw [hk0] at KY
   have HLA:=AC hla
   obtain⟨m,hm⟩:∃ m,m=b.last+1:=⟨_,rfl⟩
   have e9:IntKind.u64.wrap ((b.last:Int)+1)=(m:Int):=by rw [IntKind.wrap_u64];omega
   rw [← hm] at hB hj
   have E9:=AC e9
   clear HF HRR hyb hk0 hla hm e9
   obtain⟨g1,g2,g3,g4,hbb,hvv⟩:=K1.out.1
   obtain⟨k0,k1,k2,k3,k4⟩:=AD hbb
   have C:=AC (BG.out _ _ _ _ _ hB hvv.2)
   clear hB hbb hvv BG
   go_wp2_with fail
   refine(KY.out _).mono ?_
   rintro e w2 ⟨rfl,rfl⟩
   clear KY
   have h7:decide ((281474976710655:Int)≤(b.last:Int))=false:=by have:=HLA.out;simp;omega
   go_wp2_with fail
   rw [E9.out]
   clear h7
   refine(C.out).mono ?_
   rintro e w2 ⟨v2,rfl,t2,q2⟩
   have K2:=AC (K1.out.on q2)
   clear C k0 k1 k2 k3 k4 K1
   rcases hj with⟨h0,rfl,rfl,rfl⟩ | ⟨h0,rfl,hnm,rfl⟩
   ·have h1:((e0:Int) != 0)=true:=by simpa using h0
    clear h0 t2 q2
    obtain⟨g1,g2,g3,g4,hbb,hvv⟩:=K2.out.1
    obtain⟨k0,k1,k2,k3,k4⟩:=AD hbb
    have VV:=AC hvv
    clear hbb hvv
    have RB:=K2.out.2.1
    have RQ:=K2.out.2.2
    obtain⟨z1,z2,z3,z4,hbz,-⟩:=RB
    obtain⟨y0,y1,y2,y3,y4⟩:=AD hbz
    obtain⟨f0,f1,f2,f3,f4⟩:=AF hbz
    have RX:=AC hbz
    have RV:=AC VV.out
    have RQQ:=AC RQ
    clear RQ hbz
    go_wp2
    (try simp only [Exit.inBlock,Exit.then])
    obtain⟨wC,hwC⟩:∃ wC,wC=(((((w2.setCell ⟨w.heap.size+1,0,none⟩ (.string b.name)).setCell ⟨w.heap.size+1,1,none⟩ (.int .i64 b.st)).setCell ⟨w.heap.size+1,2,none⟩ (.slice g1 b.L.length g2)).setCell ⟨w.heap.size+1,3,none⟩ (.slice g3 b.U.length g4)).setCell ⟨w.heap.size+1,4,none⟩ (.int .u64 (b.last:Nat))):=⟨_,rfl⟩
    have gk:Kp (w.heap.size+1) w2 wC:=by rw [hwC];exact(((((Kp.of (Q.refl _)).set 0 _).set 1 _).set 2 _).set 3 _).set 4 _
    have bD:Bx wC (w.heap.size+1) 26 (bcl b (.slice g1 (b.L.length) g2) (.slice g3 (b.U.length) g4)):=by rw [hwC];exact AM (b:=b) RX.out
    have vC:=RV.out.kp (AI RX.out) gk
    have qC:Q w wC:=gk.q RQQ.out (by omega)
    rw [← hwC]
    obtain⟨v0,v1,v2,v3,v4⟩:=AD bD
    refine bodyPost_ret (v:=.tuple #[.agg #[.string b.name,.int .i64 b.st,.slice g1 b.L.length g2,.slice g3 b.U.length g4,.int .u64 (b.last:Nat)],.int .u64 0,.int .i64 (e0:Nat)]) ?_ rfl ⟨_,_,_,_,rfl,vC,qC⟩
    simp [results,Tryz.results38,go_sem,v0,v1,v2,v3,v4]
   ·obtain rfl:m=n:=hnm.symm
    clear hnm
    have h1:((e0:Int) != 0)=false:=by rw [h0];rfl
    obtain⟨A5,c5,rfl⟩:=t2.form
    obtain⟨g1,g2,g3,g4,hbb,hvv⟩:=K2.out.1
    obtain⟨k0,k1,k2,k3,k4⟩:=AD hbb
    have fz:=hbb.frozen 3
    have fz4:=hbb.frozen 4
    have gB:Kp w.heap.size w2 ((w2.setCell ⟨w.heap.size,3,none⟩ (.slice A5 U.length c5)).setCell ⟨w.heap.size,4,none⟩ (.int .u64 (m:Nat))):=((Kp.of (Q.refl w2)).set 3 _).set 4 _
    have nb:Bx ((w2.setCell ⟨w.heap.size,3,none⟩ (.slice A5 U.length c5)).setCell ⟨w.heap.size,4,none⟩ (.int .u64 (m:Nat))) w.heap.size 26 (bcl {b with U:=U,last:=m} (.slice g1 b.L.length g2) (.slice A5 U.length c5)):=(hbb.set 3 _).set 4 _
    have V2:Hid (BktV ((w2.setCell ⟨w.heap.size,3,none⟩ (.slice A5 U.length c5)).setCell ⟨w.heap.size,4,none⟩ (.int .u64 (m:Nat))) {b with U:=U,last:=m} (.slice g1 b.L.length g2) (.slice A5 U.length c5)):=AC ⟨(hvv.kp (AI hbb) gB).1,t2.kp (AI hbb) gB⟩
    have K3:Hid (Two2 w ((w2.setCell ⟨w.heap.size,3,none⟩ (.slice A5 U.length c5)).setCell ⟨w.heap.size,4,none⟩ (.int .u64 (m:Nat))) {b with U:=U,last:=m}):=AC ⟨⟨g1,g2,A5,c5,nb,V2.out⟩,K2.out.2.1.kp (AI hbb) gB (by omega),gB.q K2.out.2.2 (Nat.le_refl _)⟩
    have NB:=AC nb
    clear h0 t2 q2 hbb hvv gB nb K2
    go_upto_region 10 with fail
    clear k0 k1 k2 k3 k4 fz fz4 h1
    rw [E9.out]
    clear E9 HLA
    obtain⟨w3,hw3⟩:∃ x,x=((w2.setCell ⟨w.heap.size,3,none⟩ (.slice A5 U.length c5)).setCell ⟨w.heap.size,4,none⟩ (.int .u64 (m:Nat))):=⟨_,rfl⟩
    rw [← hw3] at V2 K3 NB ⊢
    clear hw3
    obtain⟨k0,k1,k2,k3,k4⟩:=AD NB.out
    have RB:=K3.out.2.1
    have RQ:=K3.out.2.2
    obtain⟨z1,z2,z3,z4,hbz,-⟩:=RB
    obtain⟨y0,y1,y2,y3,y4⟩:=AD hbz
    obtain⟨f0,f1,f2,f3,f4⟩:=AF hbz
    have RX:=AC hbz
    have RV:=AC V2.out
    have RQQ:=AC RQ
    clear RQ hbz
    go_wp2_with fail
    go_region
    go_wp2
    (try simp only [Exit.inBlock,Exit.then])
    obtain⟨wC,hwC⟩:∃ wC,wC=(((((w3.setCell ⟨w.heap.size+1,0,none⟩ (.string b.name)).setCell ⟨w.heap.size+1,1,none⟩ (.int .i64 b.st)).setCell ⟨w.heap.size+1,2,none⟩ (.slice g1 b.L.length g2)).setCell ⟨w.heap.size+1,3,none⟩ (.slice A5 U.length c5)).setCell ⟨w.heap.size+1,4,none⟩ (.int .u64 (m:Nat))):=⟨_,rfl⟩
    have gk:Kp (w.heap.size+1) w3 wC:=by rw [hwC];exact(((((Kp.of (Q.refl _)).set 0 _).set 1 _).set 2 _).set 3 _).set 4 _
    have bD:Bx wC (w.heap.size+1) 26 (bcl {b with U:=U,last:=m} (.slice g1 (b.L.length) g2) (.slice A5 (U.length) c5)):=by rw [hwC];exact AM (b:={b with U:=U,last:=m}) RX.out
    have vC:=RV.out.kp (AI RX.out) gk
    have qC:Q w wC:=gk.q RQQ.out (by omega)
    rw [← hwC]
    obtain⟨v0,v1,v2,v3,v4⟩:=AD bD
    refine bodyPost_ret (v:=.tuple #[.agg #[.string b.name,.int .i64 b.st,.slice g1 b.L.length g2,.slice A5 U.length c5,.int .u64 (m:Nat)],.int .u64 (m:Nat),.int .i64 0]) ?_ rfl ⟨_,_,_,_,rfl,vC.on ((Q.refl _).drew),qC.drew⟩
    simp [results,Tryz.results38,go_sem,v0,v1,v2,v3,v4]
end
end Go.Proofs.YtjjlbbfhmpbneaaGreat
