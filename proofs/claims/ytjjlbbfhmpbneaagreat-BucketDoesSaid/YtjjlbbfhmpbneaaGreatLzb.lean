/-
  Contracts of the document's with, Turn, Drop and Abort of a bucket. Contracts of the document's Turn, Drop and Abort of a bucket.
-/
import Derived.Test.YtjjlbbfhmpbneaaGreatLya
import Derived.Test.YtjjlbbfhmpbneaaGreatLy
import Derived.Test.YtjjlbbfhmpbneaaGreatLgd
import Derived.Test.YtjjlbbfhmpbneaaGreatLm
import Derived.Test.YtjjlbbfhmpbneaaGreatLx
import Derived.Test.YtjjlbbfhmpbneaaGreatLk
namespace Go.Proofs.YtjjlbbfhmpbneaaGreat
open Lib renaming hid → AC
set_option maxHeartbeats 16000000
set_option maxRecDepth 100000
set_option linter.unusedVariables false
set_option linter.unusedSimpArgs false
section
open Go.ChangeShapes Go.WideShapes Go.ChangeAt Go.RowKit Go.Shelf
def Two2(w x:World)(b:Bkt):Prop:=BoxB x w.heap.size b∧BoxB x (w.heap.size+1) noB∧Q w x
theorem Two2.on{w x y:World}{b:Bkt}(h:Two2 w x b)(q:Q x y):Two2 w y b:=⟨h.1.on q,h.2.1.on q,h.2.2.trans q⟩
theorem B5{w:World}{b:Bkt}{A A':Option Addr}{c c':Nat}(k:BktV w b (.slice A b.L.length c) (.slice A' b.U.length c')):
  Two2 w ((w.alloc (.cells (bcl b (.slice A b.L.length c) (.slice A' b.U.length c')) 26)).alloc (.cells #[.string ⟨#[]⟩,.int .i64 0,.slice none 0 0,.slice none 0 0,.int .u64 0] 26)) b:=by
 refine⟨(BoxB.new k).on ((Q.refl _).alloc _),?_,((Q.refl w).alloc _).alloc _⟩
 have h:BoxB ((w.alloc (.cells (bcl b (.slice A b.L.length c) (.slice A' b.U.length c')) 26)).alloc (.cells #[.string ⟨#[]⟩,.int .i64 0,.slice none 0 0,.slice none 0 0,.int .u64 0] 26)) (w.alloc (.cells (bcl b (.slice A b.L.length c) (.slice A' b.U.length c')) 26)).heap.size noB:=BoxB.new (d:=noB) (A:=none) (c:=0) (A':=none) (c':=0) ⟨Ents.nil _ _,Upls.nil _ _⟩
 rw [World.size_alloc] at h
 exact h
def JB(b:Bkt)(key:ByteArray)(l:List Ver)(d:Bkt)(k:Nat):Prop:=
 ∃ L j,OE b.L key l L j∧((j≠0∧d=b∧k=j)∨(j=0∧20000<Bz {b with L:=L}∧d=b∧k=6)∨(j=0∧Bz {b with L:=L}≤20000∧d = {b with L:=L}∧k=0))
theorem Fk{l L:List Ent}{key:ByteArray}{c:List Ver}{j:Nat}(h:OE l key c L j):smE L:=by
 rcases h with⟨-,rfl,-⟩ | ⟨⟨h1,h2,h3⟩,⟨-,rfl,-⟩ | ⟨h4,rfl,-⟩⟩
 ·exact⟨⟨by simp,by simp⟩,by simp⟩
 ·exact⟨⟨by simp,by simp⟩,by simp⟩
 ·exact Hk (Mh h1 h2 h3 h4)
theorem Eb(b:Bkt)(lv uv:Value)(w:World)(key:ByteArray)(l:List Ver)(vl:Value)(d:Bkt)(k:Nat)(h:JB b key l d k)(hs:smE b.L)(hu:smL b.U)(hk:key.size≤1000)(hl:l.length≤1000)(hv:BktV w b lv uv)(hc:Vers w w.heap.size vl l):
  Calls Tryz.prog 84 #[bkt b lv uv,.string key,vl] w fun e w'=>∃ A c A' c',e=.returned (.tuple #[bkt d (.slice A d.L.length c) (.slice A' d.U.length c'),.int .i64 (k:Nat)])∧BktV w' d (.slice A d.L.length c) (.slice A' d.U.length c')∧Q w w':=by
 obtain⟨L,j,hP,hj⟩:=h
 obtain⟨A1,c1,rfl⟩:=hv.1.form
 obtain⟨A2,c2,rfl⟩:=hv.2.form
 have K0:Hid (Two2 w ((w.alloc (.cells (bcl b (.slice A1 b.L.length c1) (.slice A2 b.U.length c2)) 26)).alloc (.cells #[.string ⟨#[]⟩,.int .i64 0,.slice none 0 0,.slice none 0 0,.int .u64 0] 26)) b):=AC (B5 hv)
 obtain⟨x0,hx0⟩:∃ z,z=((w.alloc (.cells (bcl b (.slice A1 b.L.length c1) (.slice A2 b.U.length c2)) 26)).alloc (.cells #[.string ⟨#[]⟩,.int .i64 0,.slice none 0 0,.slice none 0 0,.int .u64 0] 26)):=⟨_,rfl⟩
 rw [← hx0] at K0
 obtain⟨A3,c3,rfl⟩:=hc.form
 have C:=AC fun x (q:Q w x) v (hx:Ents x x.heap.size v b.L)=>L9 b.L key l L j hP v (.slice A3 l.length c3) x hs.1 hk hl hx (hc.on q)
 have OC:=AC fun x lv uv (hx:BktV x {b with L:=L} lv uv)=>Ef {b with L:=L} lv uv x (Fk hP) hu hx
 simp only [bkt] at OC
 have HJ:=AC hj
 have HO:(Bz {b with L:=L} : Int)≤200000000000:=by have:=EK (Fk hP).1;have:=EF hu;unfold Bz;simp only;omega
 have HOO:=AC HO
 clear hv hc hP hj hs hu hk hl HO
 rw [bkt]
 go_enter Tryz.func84,Tryz.ntmps84
 simp only [bcl] at hx0
 go_upto_region 1 with fail
 rw [← hx0]
 clear hx0
 obtain⟨g1,g2,g3,g4,hbb,hvv⟩:=K0.out.1
 obtain⟨k0,k1,k2,k3,k4⟩:=AD hbb
 have C1:=AC (C.out _ K0.out.2.2 _ hvv.1)
 clear hbb hvv C
 go_wp2_with fail
 refine(C1.out).mono ?_
 rintro e w1 ⟨v1,rfl,t1,q1⟩
 have K1:=AC (K0.out.on q1)
 clear C1 k0 k1 k2 k3 k4 K0
 by_cases h0:j≠0
 ·have h1:((j:Int) != 0)=true:=by simpa using h0
  obtain⟨rfl,rfl⟩:b=d∧j=k:=by
   rcases HJ.out with⟨-,a,b⟩ | ⟨a,-⟩ | ⟨a,-⟩
   ·exact⟨a.symm,b.symm⟩
   ·exact absurd a h0
   ·exact absurd a h0
  clear h0 HJ OC HOO t1
  obtain⟨g1,g2,g3,g4,hbb,hvv⟩:=K1.out.1
  obtain⟨k0,k1,k2,k3,k4⟩:=AD hbb
  have VV:=AC hvv
  clear hbb hvv
  have RB:=K1.out.2.1
  have RQ:=K1.out.2.2
  obtain⟨z1,z2,z3,z4,hbz,-⟩:=RB
  obtain⟨y0,y1,y2,y3,y4⟩:=AD hbz
  obtain⟨f0,f1,f2,f3,f4⟩:=AF hbz
  have RX:=AC hbz
  have RV:=AC VV.out
  have RQQ:=AC RQ
  clear RQ hbz
  go_wp2
  (try simp only [Exit.inBlock,Exit.then])
  obtain⟨wC,hwC⟩:∃ wC,wC=(((((w1.setCell ⟨w.heap.size+1,0,none⟩ (.string b.name)).setCell ⟨w.heap.size+1,1,none⟩ (.int .i64 b.st)).setCell ⟨w.heap.size+1,2,none⟩ (.slice g1 b.L.length g2)).setCell ⟨w.heap.size+1,3,none⟩ (.slice g3 b.U.length g4)).setCell ⟨w.heap.size+1,4,none⟩ (.int .u64 (b.last:Nat))):=⟨_,rfl⟩
  have gk:Kp (w.heap.size+1) w1 wC:=by rw [hwC];exact(((((Kp.of (Q.refl _)).set 0 _).set 1 _).set 2 _).set 3 _).set 4 _
  have bD:Bx wC (w.heap.size+1) 26 (bcl b (.slice g1 (b.L.length) g2) (.slice g3 (b.U.length) g4)):=by rw [hwC];exact AM (b:=b) RX.out
  have vC:=RV.out.kp (AI RX.out) gk
  have qC:Q w wC:=gk.q RQQ.out (by omega)
  rw [← hwC]
  obtain⟨v0,v1,v2,v3,v4⟩:=AD bD
  refine bodyPost_ret (v:=.tuple #[.agg #[.string b.name,.int .i64 b.st,.slice g1 b.L.length g2,.slice g3 b.U.length g4,.int .u64 (b.last:Nat)],.int .i64 (j:Nat)]) ?_ rfl ⟨_,_,_,_,rfl,vC,qC⟩
  simp [results,Tryz.results84,go_sem,v0,v1,v2,v3,v4]
 have h0:j=0:=by omega
 have h1:((j:Int) != 0)=false:=by rw [h0];rfl
 obtain⟨A5,c5,rfl⟩:=t1.form
 have T1:=AC t1
 obtain⟨g1,g2,g3,g4,hbb,hvv⟩:=K1.out.1
 obtain⟨k0,k1,k2,k3,k4⟩:=AD hbb
 have V1:=AC hvv
 clear hbb hvv t1 q1
 go_upto_region 6 with fail
 have ZB:Hid (Bx (w1.alloc (.cells #[.string b.name,.int .i64 b.st,.slice A5 L.length c5,.slice g3 b.U.length g4,.int .u64 (b.last:Nat)] 26)) w1.heap.size 26 (bcl {b with L:=L} (.slice A5 L.length c5) (.slice g3 b.U.length g4))):=AC (Bx.new _ _ _)
 have q2:=(Q.refl w1).alloc (.cells #[.string b.name,.int .i64 b.st,.slice A5 L.length c5,.slice g3 b.U.length g4,.int .u64 (b.last:Nat)] 26)
 have K2:=AC (K1.out.on q2)
 have V2:Hid (BktV (w1.alloc (.cells #[.string b.name,.int .i64 b.st,.slice A5 L.length c5,.slice g3 b.U.length g4,.int .u64 (b.last:Nat)] 26)) {b with L:=L} (.slice A5 L.length c5) (.slice g3 b.U.length g4)):=AC ⟨T1.out.on q2,(V1.out.on q2).2⟩
 obtain⟨x2,hx2⟩:∃ z,z=(w1.alloc (.cells #[.string b.name,.int .i64 b.st,.slice A5 L.length c5,.slice g3 b.U.length g4,.int .u64 (b.last:Nat)] 26)):=⟨_,rfl⟩
 obtain⟨p2,hp2⟩:∃ z,z=w1.heap.size:=⟨_,rfl⟩
 rw [← hx2] at ZB K2 V2 ⊢
 rw [← hp2] at ZB ⊢
 clear hx2 hp2 q2 K1 T1 V1 k0 k1 k2 k3 k4 h1
 obtain⟨k0,k1,k2,k3,k4⟩:=AD ZB.out
 have O1:=AC (OC.out _ _ _ V2.out)
 obtain⟨O,hO⟩:∃ z,z=Bz {b with L:=L}:=⟨_,rfl⟩
 have HOL:=HOO.out
 rw [← hO] at O1 HOL
 have HOE:=AC hO
 clear hO OC HOO
 go_wp2_with fail
 refine(O1.out).mono ?_
 rintro e w3 ⟨rfl,q3⟩
 have K3:=AC (K2.out.on q3)
 have V3:=AC (V2.out.on q3)
 have Z3:=AC (ZB.out.on q3)
 clear O1 k0 k1 k2 k3 k4 K2 V2 ZB q3
 by_cases hb:20000<O
 ·have hb1:(20000:Int)<(O:Int):=by omega
  obtain⟨rfl,rfl⟩:b=d∧k=6:=by
   rcases HJ.out with⟨a,-⟩ | ⟨-,-,a,b⟩ | ⟨-,a,-⟩
   ·exact absurd h0 a
   ·exact⟨a.symm,b⟩
   ·have:=HOE.out;omega
  clear HJ hb h0
  obtain⟨g1,g2,g3,g4,hbb,hvv⟩:=K3.out.1
  obtain⟨k0,k1,k2,k3,k4⟩:=AD hbb
  have VV:=AC hvv
  clear hbb hvv
  have RB:=K3.out.2.1
  have RQ:=K3.out.2.2
  obtain⟨z1,z2,z3,z4,hbz,-⟩:=RB
  obtain⟨y0,y1,y2,y3,y4⟩:=AD hbz
  obtain⟨f0,f1,f2,f3,f4⟩:=AF hbz
  have RX:=AC hbz
  have RV:=AC VV.out
  have RQQ:=AC RQ
  clear RQ hbz
  go_wp2
  (try simp only [Exit.inBlock,Exit.then])
  obtain⟨wC,hwC⟩:∃ wC,wC=(((((w3.setCell ⟨w.heap.size+1,0,none⟩ (.string b.name)).setCell ⟨w.heap.size+1,1,none⟩ (.int .i64 b.st)).setCell ⟨w.heap.size+1,2,none⟩ (.slice g1 b.L.length g2)).setCell ⟨w.heap.size+1,3,none⟩ (.slice g3 b.U.length g4)).setCell ⟨w.heap.size+1,4,none⟩ (.int .u64 (b.last:Nat))):=⟨_,rfl⟩
  have gk:Kp (w.heap.size+1) w3 wC:=by rw [hwC];exact(((((Kp.of (Q.refl _)).set 0 _).set 1 _).set 2 _).set 3 _).set 4 _
  have bD:Bx wC (w.heap.size+1) 26 (bcl b (.slice g1 (b.L.length) g2) (.slice g3 (b.U.length) g4)):=by rw [hwC];exact AM (b:=b) RX.out
  have vC:=RV.out.kp (AI RX.out) gk
  have qC:Q w wC:=gk.q RQQ.out (by omega)
  rw [← hwC]
  obtain⟨v0,v1,v2,v3,v4⟩:=AD bD
  refine bodyPost_ret (v:=.tuple #[.agg #[.string b.name,.int .i64 b.st,.slice g1 b.L.length g2,.slice g3 b.U.length g4,.int .u64 (b.last:Nat)],.int .i64 6]) ?_ rfl ⟨_,_,_,_,rfl,vC,qC⟩
  simp [results,Tryz.results84,go_sem,v0,v1,v2,v3,v4]
 ·have hb1:¬ (20000:Int)<(O:Int):=by omega
  obtain⟨rfl,rfl⟩:d = {b with L:=L}∧k=0:=by
   rcases HJ.out with⟨a,-⟩ | ⟨-,a,-⟩ | ⟨-,-,a,b⟩
   ·exact absurd h0 a
   ·have:=HOE.out;omega
   ·exact⟨a,b⟩
  clear HJ hb h0
  obtain⟨k0,k1,k2,k3,k4⟩:=AD Z3.out
  have RB:=K3.out.2.1
  have RQ:=K3.out.2.2
  obtain⟨z1,z2,z3,z4,hbz,-⟩:=RB
  obtain⟨y0,y1,y2,y3,y4⟩:=AD hbz
  obtain⟨f0,f1,f2,f3,f4⟩:=AF hbz
  have RX:=AC hbz
  have RV:=AC V3.out
  have RQQ:=AC RQ
  clear RQ hbz
  go_wp2
  (try simp only [Exit.inBlock,Exit.then])
  obtain⟨wC,hwC⟩:∃ wC,wC=(((((w3.setCell ⟨w.heap.size+1,0,none⟩ (.string b.name)).setCell ⟨w.heap.size+1,1,none⟩ (.int .i64 b.st)).setCell ⟨w.heap.size+1,2,none⟩ (.slice A5 L.length c5)).setCell ⟨w.heap.size+1,3,none⟩ (.slice g3 b.U.length g4)).setCell ⟨w.heap.size+1,4,none⟩ (.int .u64 (b.last:Nat))):=⟨_,rfl⟩
  have gk:Kp (w.heap.size+1) w3 wC:=by rw [hwC];exact(((((Kp.of (Q.refl _)).set 0 _).set 1 _).set 2 _).set 3 _).set 4 _
  have bD:Bx wC (w.heap.size+1) 26 (bcl {b with L:=L} (.slice A5 (L.length) c5) (.slice g3 (b.U.length) g4)):=by rw [hwC];exact AM (b:={b with L:=L}) RX.out
  have vC:=RV.out.kp (AI RX.out) gk
  have qC:Q w wC:=gk.q RQQ.out (by omega)
  rw [← hwC]
  obtain⟨v0,v1,v2,v3,v4⟩:=AD bD
  refine bodyPost_ret (v:=.tuple #[.agg #[.string b.name,.int .i64 b.st,.slice A5 L.length c5,.slice g3 b.U.length g4,.int .u64 (b.last:Nat)],.int .i64 0]) ?_ rfl ⟨_,_,_,_,rfl,vC,qC⟩
  simp [results,Tryz.results84,go_sem,v0,v1,v2,v3,v4]
end
section
open Go.ChangeShapes Go.WideShapes Go.ChangeAt Go.RowKit Go.Shelf
theorem Dy{b d:Bkt}{R:Bkt→Nat→Nat→ByteArray→Nat→Prop}{n t:Nat}{s:ByteArray}{k:Nat}(h:BC b R d n t s k)(hb:¬ okB b):b=d∧n=0∧t=0∧s=noS∧k=1:=by
 rcases h with⟨-,⟨rfl,h⟩,h1⟩ | ⟨h,-⟩
 ·exact⟨rfl,h.1,h.2.1,h.2.2,h1⟩
 ·exact absurd h hb
theorem DI{b d:Bkt}{R:Bkt→Nat→Nat→ByteArray→Nat→Prop}{n t:Nat}{s:ByteArray}{k:Nat}(h:BC b R d n t s k)(hb:okB b):∃ d1 n1 t1 s1 k1,R d1 n1 t1 s1 k1∧
  ((k1≠0∧(d=b∧n=0∧t=0∧s=noS)∧k=k1)∨(k1=0∧20000<Bz d1∧(d=b∧n=0∧t=0∧s=noS)∧k=6)∨(k1=0∧Bz d1≤20000∧(d=d1∧n=n1∧t=t1∧s=s1)∧k=0)):=by
 rcases h with⟨h,-⟩ | ⟨-,h⟩
 ·exact absurd hb h
 ·exact h
theorem Lw(l:List Upl)(id:Nat):DD (rmU l id)≤DD l:=by
 induction l with
 | nil=>simp [rmU]
 | cons x r ih=>
   unfold rmU at ih ⊢
   by_cases h:x.id≠id
   ·rw [List.filter_cons_of_pos (by simpa using h)]
    simp only [DD,List.map_cons,List.sum_cons] at ih ⊢
    omega
   ·rw [List.filter_cons_of_neg (by simpa using h)]
    simp only [DD,List.map_cons,List.sum_cons] at ih ⊢
    omega
theorem Oa{b d:Bkt}{z:Int}{n t:Nat}{s:ByteArray}{k:Nat}(hF:BC b (FO b z) d n t s k)(hb:okB b):((z<0∨2<z)∧b=d∧k=1)∨(0≤z∧z≤2∧z=0∧b.st≠0∧b=d∧k=8)∨(0≤z∧z≤2∧(z=0→b.st=0)∧d = {b with st:=z}∧k=0):=by
 obtain⟨d1,n1,t1,s1,k1,⟨hr,-⟩,h⟩:=DI hF hb
 clear hF
 have ho:=hb.2.2.2.2.2.2
 rcases hr with⟨h1,rfl,rfl⟩ | ⟨h1,h2,h3,rfl,rfl⟩ | ⟨h1,h2,rfl,rfl⟩
 ·rcases h with⟨-,h,rfl⟩ | ⟨h,-⟩ | ⟨h,-⟩
  ·refine .inl ⟨?_,h.1.symm,rfl⟩
   simp [Hp] at h1;omega
  ·omega
  ·omega
 ·rcases h with⟨-,h,rfl⟩ | ⟨h,-⟩ | ⟨h,-⟩
  ·simp [Hp] at h1
   exact .inr (.inl ⟨h1.1,h1.2,h2,h3,h.1.symm,rfl⟩)
  ·omega
  ·omega
 ·rcases h with⟨h,-⟩ | ⟨-,h,-⟩ | ⟨-,-,h,rfl⟩
  ·omega
  ·have:Bz {b with st:=z}=Bz b:=rfl
   omega
  ·simp [Hp] at h1
   exact .inr (.inr ⟨h1.1,h1.2,h2,h.1,rfl⟩)
theorem Nw{b d:Bkt}{id n t:Nat}{s:ByteArray}{k:Nat}(hF:BC b (Lc b id) d n t s k)(hb:okB b):∃ U e,AbortC b.U id U e∧((e≠0∧b=d∧e=k)∨(e=0∧d = {b with U:=U}∧k=0)):=by
 obtain⟨d1,n1,t1,s1,k1,⟨⟨U,hA,rfl⟩,-⟩,h⟩:=DI hF hb
 clear hF
 have ho:=hb.2.2.2.2.2.2
 refine⟨U,k1,hA,?_⟩
 rcases h with⟨h0,h,rfl⟩ | ⟨rfl,h,-⟩ | ⟨rfl,-,h,rfl⟩
 ·exact .inl ⟨h0,h.1.symm,rfl⟩
 ·have e:Bz {b with U:=U}≤Bz b:=by
   cases hA with
   | yes=>have:=Lw b.U id;unfold Bz;simp only;omega
  omega
 ·exact .inr ⟨rfl,h.1,rfl⟩
theorem QA{b d:Bkt}{key:ByteArray}{id n t:Nat}{s:ByteArray}{k:Nat}(hF:BC b (FP b key id) d n t s k)(hb:okB b):(BD 1 60 ko key=false∧b=d∧k=1)∨(BD 1 60 ko key=true∧∃ l e,DropC (BY b.L key) id l e∧((e≠0∧b=d∧e=k)∨(e=0∧JB b key l d k))):=by
 obtain⟨d1,n1,t1,s1,k1,⟨hr,-⟩,h⟩:=DI hF hb
 clear hF
 rcases hr with⟨h1,rfl,rfl⟩ | ⟨h1,l,e,hD,hS⟩
 ·rcases h with⟨-,h,rfl⟩ | ⟨h,-⟩ | ⟨h,-⟩
  ·exact .inl ⟨h1,h.1.symm,rfl⟩
  ·omega
  ·omega
 ·refine .inr ⟨h1,l,e,hD,?_⟩
  rcases hS with⟨h0,rfl,rfl⟩ | ⟨h0,L,j,hP,rfl,rfl⟩
  ·rcases h with⟨-,h,rfl⟩ | ⟨h,-⟩ | ⟨h,-⟩
   ·exact .inl ⟨h0,h.1.symm,rfl⟩
   ·omega
   ·omega
  ·refine .inr ⟨h0,L,k1,hP,?_⟩
   rcases h with⟨h2,h,rfl⟩ | ⟨h2,h3,h,rfl⟩ | ⟨h2,h3,h,rfl⟩
   ·exact .inl ⟨h2,h.1,rfl⟩
   ·exact .inr (.inl ⟨h2,h3,h.1,rfl⟩)
   ·exact .inr (.inr ⟨h2,h3,h.1,rfl⟩)
theorem KG(b:Bkt)(lv uv:Value)(w:World)(z:Int)(d:Bkt)(n t:Nat)(s:ByteArray)(k:Nat)(hF:BC b (FO b z) d n t s k)(hn:b.name.size≤1000)(hs:smE b.L)(hu:smL b.U)(hv:BktV w b lv uv):
  Calls Tryz.prog 37 #[bkt b lv uv,.int .i64 z] w fun e w'=>∃ A c A' c',e=.returned (.tuple #[bkt d (.slice A d.L.length c) (.slice A' d.U.length c'),.int .i64 (k:Nat)])∧BktV w' d (.slice A d.L.length c) (.slice A' d.U.length c')∧Q w w':=by
 obtain⟨A1,c1,rfl⟩:=hv.1.form
 obtain⟨A2,c2,rfl⟩:=hv.2.form
 have K0:Hid (Two2 w ((w.alloc (.cells (bcl b (.slice A1 b.L.length c1) (.slice A2 b.U.length c2)) 26)).alloc (.cells #[.string ⟨#[]⟩,.int .i64 0,.slice none 0 0,.slice none 0 0,.int .u64 0] 26)) b):=AC (B5 hv)
 obtain⟨x0,hx0⟩:∃ z,z=((w.alloc (.cells (bcl b (.slice A1 b.L.length c1) (.slice A2 b.U.length c2)) 26)).alloc (.cells #[.string ⟨#[]⟩,.int .i64 0,.slice none 0 0,.slice none 0 0,.int .u64 0] 26)):=⟨_,rfl⟩
 rw [← hx0] at K0
 obtain⟨R,hR⟩:=Bw (okB b)
 have RM:=AC fun x lv uv (hx:BktV x b lv uv)=>BU b lv uv x R hR hn hs hu hx
 simp only [bkt] at RM
 have HRR:=AC hR
 clear hR
 have HF:=AC hF
 clear hF hn hs hu hv
 rw [bkt]
 go_enter Tryz.func37,Tryz.ntmps37
 simp only [bcl] at hx0
 go_upto_region 1 with fail
 rw [← hx0]
 clear hx0
 obtain⟨g1,g2,g3,g4,hbb,hvv⟩:=K0.out.1
 obtain⟨k0,k1,k2,k3,k4⟩:=AD hbb
 have C1:=AC (RM.out _ _ _ hvv)
 clear hbb hvv RM
 go_wp2_with fail
 refine(C1.out).mono ?_
 rintro e w1 ⟨rfl,q1⟩
 have K1:=AC (K0.out.on q1)
 clear C1 k0 k1 k2 k3 k4 K0 q1
 cases R with
 | false=>
   have hnb:¬ okB b:=by rcases HRR.out with⟨h,-⟩ | ⟨-,h⟩;exact absurd h (by decide);exact h
   obtain⟨rfl,rfl,rfl,rfl,rfl⟩:=Dy HF.out hnb
   clear hnb HRR HF
   obtain⟨g1,g2,g3,g4,hbb,hvv⟩:=K1.out.1
   obtain⟨k0,k1,k2,k3,k4⟩:=AD hbb
   have VV:=AC hvv
   clear hbb hvv
   have RB:=K1.out.2.1
   have RQ:=K1.out.2.2
   obtain⟨z1,z2,z3,z4,hbz,-⟩:=RB
   obtain⟨y0,y1,y2,y3,y4⟩:=AD hbz
   obtain⟨f0,f1,f2,f3,f4⟩:=AF hbz
   have RX:=AC hbz
   have RV:=AC VV.out
   have RQQ:=AC RQ
   clear RQ hbz
   go_wp2
   (try simp only [Exit.inBlock,Exit.then])
   obtain⟨wC,hwC⟩:∃ wC,wC=(((((w1.setCell ⟨w.heap.size+1,0,none⟩ (.string b.name)).setCell ⟨w.heap.size+1,1,none⟩ (.int .i64 b.st)).setCell ⟨w.heap.size+1,2,none⟩ (.slice g1 b.L.length g2)).setCell ⟨w.heap.size+1,3,none⟩ (.slice g3 b.U.length g4)).setCell ⟨w.heap.size+1,4,none⟩ (.int .u64 (b.last:Nat))):=⟨_,rfl⟩
   have gk:Kp (w.heap.size+1) w1 wC:=by rw [hwC];exact(((((Kp.of (Q.refl _)).set 0 _).set 1 _).set 2 _).set 3 _).set 4 _
   have bD:Bx wC (w.heap.size+1) 26 (bcl b (.slice g1 (b.L.length) g2) (.slice g3 (b.U.length) g4)):=by rw [hwC];exact AM (b:=b) RX.out
   have vC:=RV.out.kp (AI RX.out) gk
   have qC:Q w wC:=gk.q RQQ.out (by omega)
   rw [← hwC]
   obtain⟨v0,v1,v2,v3,v4⟩:=AD bD
   refine bodyPost_ret (v:=.tuple #[.agg #[.string b.name,.int .i64 b.st,.slice g1 b.L.length g2,.slice g3 b.U.length g4,.int .u64 (b.last:Nat)],.int .i64 1]) ?_ rfl ⟨_,_,_,_,rfl,vC,qC⟩
   simp [results,Tryz.results37,go_sem,v0,v1,v2,v3,v4]
 | true=>
   have hyb:okB b:=by rcases HRR.out with⟨-,h⟩ | ⟨h,-⟩;exact h;exact absurd h (by decide)
   rcases Oa HF.out hyb with⟨h1,rfl,rfl⟩ | ⟨h1,h2,rfl,h3,rfl,rfl⟩ | ⟨h1,h2,h3,rfl,rfl⟩
   ·clear HF HRR hyb
    rcases h1 with h1 | h1
    ·have j1:z<0:=h1
     obtain⟨g1,g2,g3,g4,hbb,hvv⟩:=K1.out.1
     obtain⟨k0,k1,k2,k3,k4⟩:=AD hbb
     have VV:=AC hvv
     clear hbb hvv
     have RB:=K1.out.2.1
     have RQ:=K1.out.2.2
     obtain⟨z1,z2,z3,z4,hbz,-⟩:=RB
     obtain⟨y0,y1,y2,y3,y4⟩:=AD hbz
     obtain⟨f0,f1,f2,f3,f4⟩:=AF hbz
     have RX:=AC hbz
     have RV:=AC VV.out
     have RQQ:=AC RQ
     clear RQ hbz
     go_wp2
     (try simp only [Exit.inBlock,Exit.then])
     obtain⟨wC,hwC⟩:∃ wC,wC=(((((w1.setCell ⟨w.heap.size+1,0,none⟩ (.string b.name)).setCell ⟨w.heap.size+1,1,none⟩ (.int .i64 b.st)).setCell ⟨w.heap.size+1,2,none⟩ (.slice g1 b.L.length g2)).setCell ⟨w.heap.size+1,3,none⟩ (.slice g3 b.U.length g4)).setCell ⟨w.heap.size+1,4,none⟩ (.int .u64 (b.last:Nat))):=⟨_,rfl⟩
     have gk:Kp (w.heap.size+1) w1 wC:=by rw [hwC];exact(((((Kp.of (Q.refl _)).set 0 _).set 1 _).set 2 _).set 3 _).set 4 _
     have bD:Bx wC (w.heap.size+1) 26 (bcl b (.slice g1 (b.L.length) g2) (.slice g3 (b.U.length) g4)):=by rw [hwC];exact AM (b:=b) RX.out
     have vC:=RV.out.kp (AI RX.out) gk
     have qC:Q w wC:=gk.q RQQ.out (by omega)
     rw [← hwC]
     obtain⟨v0,v1,v2,v3,v4⟩:=AD bD
     refine bodyPost_ret (v:=.tuple #[.agg #[.string b.name,.int .i64 b.st,.slice g1 b.L.length g2,.slice g3 b.U.length g4,.int .u64 (b.last:Nat)],.int .i64 1]) ?_ rfl ⟨_,_,_,_,rfl,vC,qC⟩
     simp [results,Tryz.results37,go_sem,v0,v1,v2,v3,v4]
    ·have j1:¬ z<0:=by omega
     have j2:2<z:=h1
     obtain⟨g1,g2,g3,g4,hbb,hvv⟩:=K1.out.1
     obtain⟨k0,k1,k2,k3,k4⟩:=AD hbb
     have VV:=AC hvv
     clear hbb hvv
     have RB:=K1.out.2.1
     have RQ:=K1.out.2.2
     obtain⟨z1,z2,z3,z4,hbz,-⟩:=RB
     obtain⟨y0,y1,y2,y3,y4⟩:=AD hbz
     obtain⟨f0,f1,f2,f3,f4⟩:=AF hbz
     have RX:=AC hbz
     have RV:=AC VV.out
     have RQQ:=AC RQ
     clear RQ hbz
     go_wp2
     (try simp only [Exit.inBlock,Exit.then])
     obtain⟨wC,hwC⟩:∃ wC,wC=(((((w1.setCell ⟨w.heap.size+1,0,none⟩ (.string b.name)).setCell ⟨w.heap.size+1,1,none⟩ (.int .i64 b.st)).setCell ⟨w.heap.size+1,2,none⟩ (.slice g1 b.L.length g2)).setCell ⟨w.heap.size+1,3,none⟩ (.slice g3 b.U.length g4)).setCell ⟨w.heap.size+1,4,none⟩ (.int .u64 (b.last:Nat))):=⟨_,rfl⟩
     have gk:Kp (w.heap.size+1) w1 wC:=by rw [hwC];exact(((((Kp.of (Q.refl _)).set 0 _).set 1 _).set 2 _).set 3 _).set 4 _
     have bD:Bx wC (w.heap.size+1) 26 (bcl b (.slice g1 (b.L.length) g2) (.slice g3 (b.U.length) g4)):=by rw [hwC];exact AM (b:=b) RX.out
     have vC:=RV.out.kp (AI RX.out) gk
     have qC:Q w wC:=gk.q RQQ.out (by omega)
     rw [← hwC]
     obtain⟨v0,v1,v2,v3,v4⟩:=AD bD
     refine bodyPost_ret (v:=.tuple #[.agg #[.string b.name,.int .i64 b.st,.slice g1 b.L.length g2,.slice g3 b.U.length g4,.int .u64 (b.last:Nat)],.int .i64 1]) ?_ rfl ⟨_,_,_,_,rfl,vC,qC⟩
     simp [results,Tryz.results37,go_sem,v0,v1,v2,v3,v4]
   ·have j3:(b.st != 0)=true:=by simpa using h3
    clear HF HRR hyb h1 h2 h3
    obtain⟨g1,g2,g3,g4,hbb,hvv⟩:=K1.out.1
    obtain⟨k0,k1,k2,k3,k4⟩:=AD hbb
    have VV:=AC hvv
    clear hbb hvv
    have RB:=K1.out.2.1
    have RQ:=K1.out.2.2
    obtain⟨z1,z2,z3,z4,hbz,-⟩:=RB
    obtain⟨y0,y1,y2,y3,y4⟩:=AD hbz
    obtain⟨f0,f1,f2,f3,f4⟩:=AF hbz
    have RX:=AC hbz
    have RV:=AC VV.out
    have RQQ:=AC RQ
    clear RQ hbz
    go_wp2
    (try simp only [Exit.inBlock,Exit.then])
    obtain⟨wC,hwC⟩:∃ wC,wC=(((((w1.setCell ⟨w.heap.size+1,0,none⟩ (.string b.name)).setCell ⟨w.heap.size+1,1,none⟩ (.int .i64 b.st)).setCell ⟨w.heap.size+1,2,none⟩ (.slice g1 b.L.length g2)).setCell ⟨w.heap.size+1,3,none⟩ (.slice g3 b.U.length g4)).setCell ⟨w.heap.size+1,4,none⟩ (.int .u64 (b.last:Nat))):=⟨_,rfl⟩
    have gk:Kp (w.heap.size+1) w1 wC:=by rw [hwC];exact(((((Kp.of (Q.refl _)).set 0 _).set 1 _).set 2 _).set 3 _).set 4 _
    have bD:Bx wC (w.heap.size+1) 26 (bcl b (.slice g1 (b.L.length) g2) (.slice g3 (b.U.length) g4)):=by rw [hwC];exact AM (b:=b) RX.out
    have vC:=RV.out.kp (AI RX.out) gk
    have qC:Q w wC:=gk.q RQQ.out (by omega)
    rw [← hwC]
    obtain⟨v0,v1,v2,v3,v4⟩:=AD bD
    refine bodyPost_ret (v:=.tuple #[.agg #[.string b.name,.int .i64 b.st,.slice g1 b.L.length g2,.slice g3 b.U.length g4,.int .u64 (b.last:Nat)],.int .i64 8]) ?_ rfl ⟨_,_,_,_,rfl,vC,qC⟩
    simp [results,Tryz.results37,go_sem,v0,v1,v2,v3,v4]
   ·have j1:¬ z<0:=by omega
    have j2:¬ 2<z:=by omega
    clear HF HRR hyb h1 h2
    obtain⟨g1,g2,g3,g4,hbb,hvv⟩:=K1.out.1
    obtain⟨k0,k1,k2,k3,k4⟩:=AD hbb
    have fz:=hbb.frozen 1
    have gB:Kp w.heap.size w1 (w1.setCell ⟨w.heap.size,1,none⟩ (.int .i64 z)):=(Kp.of (Q.refl w1)).set 1 _
    have V2:=AC (hvv.kp (AI hbb) gB)
    have nb:Bx (w1.setCell ⟨w.heap.size,1,none⟩ (.int .i64 z)) w.heap.size 26 (bcl {b with st:=z} (.slice g1 b.L.length g2) (.slice g3 b.U.length g4)):=hbb.set 1 _
    have K2:Hid (Two2 w (w1.setCell ⟨w.heap.size,1,none⟩ (.int .i64 z)) {b with st:=z}):=AC ⟨⟨g1,g2,g3,g4,nb,V2.out⟩,K1.out.2.1.kp (AI hbb) gB (by omega),gB.q K1.out.2.2 (Nat.le_refl _)⟩
    have NB:=AC nb
    clear hbb hvv gB nb K1
    have j0:z=0∨z≠0:=by omega
    rcases j0 with j0 | j0
    ·have j4:(b.st != 0)=false:=by rw [h3 j0];rfl
     subst j0
     clear h3 j1 j2
     go_upto_region 6 with fail
     clear k0 k1 k2 k3 k4 fz j4
     obtain⟨w2,hw2⟩:∃ x,x=w1.setCell ⟨w.heap.size,1,none⟩ (.int .i64 0):=⟨_,rfl⟩
     rw [← hw2] at V2 K2 NB ⊢
     clear hw2
     obtain⟨k0,k1,k2,k3,k4⟩:=AD NB.out
     have RB:=K2.out.2.1
     have RQ:=K2.out.2.2
     obtain⟨z1,z2,z3,z4,hbz,-⟩:=RB
     obtain⟨y0,y1,y2,y3,y4⟩:=AD hbz
     obtain⟨f0,f1,f2,f3,f4⟩:=AF hbz
     have RX:=AC hbz
     have RV:=AC V2.out
     have RQQ:=AC RQ
     clear RQ hbz
     go_wp2
     (try simp only [Exit.inBlock,Exit.then])
     obtain⟨wC,hwC⟩:∃ wC,wC=(((((w2.setCell ⟨w.heap.size+1,0,none⟩ (.string b.name)).setCell ⟨w.heap.size+1,1,none⟩ (.int .i64 0)).setCell ⟨w.heap.size+1,2,none⟩ (.slice g1 b.L.length g2)).setCell ⟨w.heap.size+1,3,none⟩ (.slice g3 b.U.length g4)).setCell ⟨w.heap.size+1,4,none⟩ (.int .u64 (b.last:Nat))):=⟨_,rfl⟩
     have gk:Kp (w.heap.size+1) w2 wC:=by rw [hwC];exact(((((Kp.of (Q.refl _)).set 0 _).set 1 _).set 2 _).set 3 _).set 4 _
     have bD:Bx wC (w.heap.size+1) 26 (bcl {b with st:=0} (.slice g1 (b.L.length) g2) (.slice g3 (b.U.length) g4)):=by rw [hwC];exact AM (b:={b with st:=0}) RX.out
     have vC:=RV.out.kp (AI RX.out) gk
     have qC:Q w wC:=gk.q RQQ.out (by omega)
     rw [← hwC]
     obtain⟨v0,v1,v2,v3,v4⟩:=AD bD
     refine bodyPost_ret (v:=.tuple #[.agg #[.string b.name,.int .i64 0,.slice g1 b.L.length g2,.slice g3 b.U.length g4,.int .u64 (b.last:Nat)],.int .i64 0]) ?_ rfl ⟨_,_,_,_,rfl,vC,qC⟩
     simp [results,Tryz.results37,go_sem,v0,v1,v2,v3,v4]
    ·have j4:(z==0)=false:=by simpa using j0
     clear h3 j0
     go_upto_region 6 with fail
     clear k0 k1 k2 k3 k4 fz j1 j2 j4
     obtain⟨w2,hw2⟩:∃ x,x=w1.setCell ⟨w.heap.size,1,none⟩ (.int .i64 z):=⟨_,rfl⟩
     rw [← hw2] at V2 K2 NB ⊢
     clear hw2
     obtain⟨k0,k1,k2,k3,k4⟩:=AD NB.out
     have RB:=K2.out.2.1
     have RQ:=K2.out.2.2
     obtain⟨z1,z2,z3,z4,hbz,-⟩:=RB
     obtain⟨y0,y1,y2,y3,y4⟩:=AD hbz
     obtain⟨f0,f1,f2,f3,f4⟩:=AF hbz
     have RX:=AC hbz
     have RV:=AC V2.out
     have RQQ:=AC RQ
     clear RQ hbz
     go_wp2
     (try simp only [Exit.inBlock,Exit.then])
     obtain⟨wC,hwC⟩:∃ wC,wC=(((((w2.setCell ⟨w.heap.size+1,0,none⟩ (.string b.name)).setCell ⟨w.heap.size+1,1,none⟩ (.int .i64 z)).setCell ⟨w.heap.size+1,2,none⟩ (.slice g1 b.L.length g2)).setCell ⟨w.heap.size+1,3,none⟩ (.slice g3 b.U.length g4)).setCell ⟨w.heap.size+1,4,none⟩ (.int .u64 (b.last:Nat))):=⟨_,rfl⟩
     have gk:Kp (w.heap.size+1) w2 wC:=by rw [hwC];exact(((((Kp.of (Q.refl _)).set 0 _).set 1 _).set 2 _).set 3 _).set 4 _
     have bD:Bx wC (w.heap.size+1) 26 (bcl {b with st:=z} (.slice g1 (b.L.length) g2) (.slice g3 (b.U.length) g4)):=by rw [hwC];exact AM (b:={b with st:=z}) RX.out
     have vC:=RV.out.kp (AI RX.out) gk
     have qC:Q w wC:=gk.q RQQ.out (by omega)
     rw [← hwC]
     obtain⟨v0,v1,v2,v3,v4⟩:=AD bD
     refine bodyPost_ret (v:=.tuple #[.agg #[.string b.name,.int .i64 z,.slice g1 b.L.length g2,.slice g3 b.U.length g4,.int .u64 (b.last:Nat)],.int .i64 0]) ?_ rfl ⟨_,_,_,_,rfl,vC,qC⟩
     simp [results,Tryz.results37,go_sem,v0,v1,v2,v3,v4]
theorem Ej(b:Bkt)(lv uv:Value)(w:World)(id:Nat)(d:Bkt)(n t:Nat)(s:ByteArray)(k:Nat)(hF:BC b (Lc b id) d n t s k)(hn:b.name.size≤1000)(hs:smE b.L)(hu:smL b.U)(hv:BktV w b lv uv):
  Calls Tryz.prog 40 #[bkt b lv uv,.int .u64 (id:Nat)] w fun e w'=>∃ A c A' c',e=.returned (.tuple #[bkt d (.slice A d.L.length c) (.slice A' d.U.length c'),.int .i64 (k:Nat)])∧BktV w' d (.slice A d.L.length c) (.slice A' d.U.length c')∧Q w w':=by
 obtain⟨A1,c1,rfl⟩:=hv.1.form
 obtain⟨A2,c2,rfl⟩:=hv.2.form
 have K0:Hid (Two2 w ((w.alloc (.cells (bcl b (.slice A1 b.L.length c1) (.slice A2 b.U.length c2)) 26)).alloc (.cells #[.string ⟨#[]⟩,.int .i64 0,.slice none 0 0,.slice none 0 0,.int .u64 0] 26)) b):=AC (B5 hv)
 obtain⟨x0,hx0⟩:∃ z,z=((w.alloc (.cells (bcl b (.slice A1 b.L.length c1) (.slice A2 b.U.length c2)) 26)).alloc (.cells #[.string ⟨#[]⟩,.int .i64 0,.slice none 0 0,.slice none 0 0,.int .u64 0] 26)):=⟨_,rfl⟩
 rw [← hx0] at K0
 have AB:=AC fun x v U e (h:AbortC b.U id U e) (hx:Upls x x.heap.size v b.U)=>Ic b.U v id x U e h hu hx
 obtain⟨R,hR⟩:=Bw (okB b)
 have RM:=AC fun x lv uv (hx:BktV x b lv uv)=>BU b lv uv x R hR hn hs hu hx
 simp only [bkt] at RM
 have HRR:=AC hR
 clear hR
 have HF:=AC hF
 clear hF hn hs hu hv
 rw [bkt]
 go_enter Tryz.func40,Tryz.ntmps40
 simp only [bcl] at hx0
 go_upto_region 1 with fail
 rw [← hx0]
 clear hx0
 obtain⟨g1,g2,g3,g4,hbb,hvv⟩:=K0.out.1
 obtain⟨k0,k1,k2,k3,k4⟩:=AD hbb
 have C1:=AC (RM.out _ _ _ hvv)
 clear hbb hvv RM
 go_wp2_with fail
 refine(C1.out).mono ?_
 rintro e w1 ⟨rfl,q1⟩
 have K1:=AC (K0.out.on q1)
 clear C1 k0 k1 k2 k3 k4 K0 q1
 cases R with
 | false=>
   have hnb:¬ okB b:=by rcases HRR.out with⟨h,-⟩ | ⟨-,h⟩;exact absurd h (by decide);exact h
   obtain⟨rfl,rfl,rfl,rfl,rfl⟩:=Dy HF.out hnb
   clear hnb HRR HF AB
   obtain⟨g1,g2,g3,g4,hbb,hvv⟩:=K1.out.1
   obtain⟨k0,k1,k2,k3,k4⟩:=AD hbb
   have VV:=AC hvv
   clear hbb hvv
   have RB:=K1.out.2.1
   have RQ:=K1.out.2.2
   obtain⟨z1,z2,z3,z4,hbz,-⟩:=RB
   obtain⟨y0,y1,y2,y3,y4⟩:=AD hbz
   obtain⟨f0,f1,f2,f3,f4⟩:=AF hbz
   have RX:=AC hbz
   have RV:=AC VV.out
   have RQQ:=AC RQ
   clear RQ hbz
   go_wp2
   (try simp only [Exit.inBlock,Exit.then])
   obtain⟨wC,hwC⟩:∃ wC,wC=(((((w1.setCell ⟨w.heap.size+1,0,none⟩ (.string b.name)).setCell ⟨w.heap.size+1,1,none⟩ (.int .i64 b.st)).setCell ⟨w.heap.size+1,2,none⟩ (.slice g1 b.L.length g2)).setCell ⟨w.heap.size+1,3,none⟩ (.slice g3 b.U.length g4)).setCell ⟨w.heap.size+1,4,none⟩ (.int .u64 (b.last:Nat))):=⟨_,rfl⟩
   have gk:Kp (w.heap.size+1) w1 wC:=by rw [hwC];exact(((((Kp.of (Q.refl _)).set 0 _).set 1 _).set 2 _).set 3 _).set 4 _
   have bD:Bx wC (w.heap.size+1) 26 (bcl b (.slice g1 (b.L.length) g2) (.slice g3 (b.U.length) g4)):=by rw [hwC];exact AM (b:=b) RX.out
   have vC:=RV.out.kp (AI RX.out) gk
   have qC:Q w wC:=gk.q RQQ.out (by omega)
   rw [← hwC]
   obtain⟨v0,v1,v2,v3,v4⟩:=AD bD
   refine bodyPost_ret (v:=.tuple #[.agg #[.string b.name,.int .i64 b.st,.slice g1 b.L.length g2,.slice g3 b.U.length g4,.int .u64 (b.last:Nat)],.int .i64 1]) ?_ rfl ⟨_,_,_,_,rfl,vC,qC⟩
   simp [results,Tryz.results40,go_sem,v0,v1,v2,v3,v4]
 | true=>
   have hyb:okB b:=by rcases HRR.out with⟨-,h⟩ | ⟨h,-⟩;exact h;exact absurd h (by decide)
   obtain⟨U,e0,hA,hj⟩:=Nw HF.out hyb
   clear HF HRR hyb
   obtain⟨g1,g2,g3,g4,hbb,hvv⟩:=K1.out.1
   obtain⟨k0,k1,k2,k3,k4⟩:=AD hbb
   have C:=AC (AB.out _ _ _ _ hA hvv.2)
   clear hA hbb hvv AB
   go_wp2_with fail
   refine(C.out).mono ?_
   rintro e w2 ⟨v2,rfl,t2,q2⟩
   have K2:=AC (K1.out.on q2)
   clear C k0 k1 k2 k3 k4 K1
   rcases hj with⟨h0,rfl,rfl⟩ | ⟨h0,rfl,rfl⟩
   ·have h1:((e0:Int) != 0)=true:=by simpa using h0
    clear h0 t2 q2
    obtain⟨g1,g2,g3,g4,hbb,hvv⟩:=K2.out.1
    obtain⟨k0,k1,k2,k3,k4⟩:=AD hbb
    have VV:=AC hvv
    clear hbb hvv
    have RB:=K2.out.2.1
    have RQ:=K2.out.2.2
    obtain⟨z1,z2,z3,z4,hbz,-⟩:=RB
    obtain⟨y0,y1,y2,y3,y4⟩:=AD hbz
    obtain⟨f0,f1,f2,f3,f4⟩:=AF hbz
    have RX:=AC hbz
    have RV:=AC VV.out
    have RQQ:=AC RQ
    clear RQ hbz
    go_wp2
    (try simp only [Exit.inBlock,Exit.then])
    obtain⟨wC,hwC⟩:∃ wC,wC=(((((w2.setCell ⟨w.heap.size+1,0,none⟩ (.string b.name)).setCell ⟨w.heap.size+1,1,none⟩ (.int .i64 b.st)).setCell ⟨w.heap.size+1,2,none⟩ (.slice g1 b.L.length g2)).setCell ⟨w.heap.size+1,3,none⟩ (.slice g3 b.U.length g4)).setCell ⟨w.heap.size+1,4,none⟩ (.int .u64 (b.last:Nat))):=⟨_,rfl⟩
    have gk:Kp (w.heap.size+1) w2 wC:=by rw [hwC];exact(((((Kp.of (Q.refl _)).set 0 _).set 1 _).set 2 _).set 3 _).set 4 _
    have bD:Bx wC (w.heap.size+1) 26 (bcl b (.slice g1 (b.L.length) g2) (.slice g3 (b.U.length) g4)):=by rw [hwC];exact AM (b:=b) RX.out
    have vC:=RV.out.kp (AI RX.out) gk
    have qC:Q w wC:=gk.q RQQ.out (by omega)
    rw [← hwC]
    obtain⟨v0,v1,v2,v3,v4⟩:=AD bD
    refine bodyPost_ret (v:=.tuple #[.agg #[.string b.name,.int .i64 b.st,.slice g1 b.L.length g2,.slice g3 b.U.length g4,.int .u64 (b.last:Nat)],.int .i64 (e0:Nat)]) ?_ rfl ⟨_,_,_,_,rfl,vC,qC⟩
    simp [results,Tryz.results40,go_sem,v0,v1,v2,v3,v4]
   ·have h1:((e0:Int) != 0)=false:=by rw [h0];rfl
    obtain⟨A5,c5,rfl⟩:=t2.form
    obtain⟨g1,g2,g3,g4,hbb,hvv⟩:=K2.out.1
    obtain⟨k0,k1,k2,k3,k4⟩:=AD hbb
    have fz:=hbb.frozen 3
    have gB:Kp w.heap.size w2 (w2.setCell ⟨w.heap.size,3,none⟩ (.slice A5 U.length c5)):=(Kp.of (Q.refl w2)).set 3 _
    have V2:Hid (BktV (w2.setCell ⟨w.heap.size,3,none⟩ (.slice A5 U.length c5)) {b with U:=U} (.slice g1 b.L.length g2) (.slice A5 U.length c5)):=AC ⟨(hvv.kp (AI hbb) gB).1,t2.kp (AI hbb) gB⟩
    have nb:Bx (w2.setCell ⟨w.heap.size,3,none⟩ (.slice A5 U.length c5)) w.heap.size 26 (bcl {b with U:=U} (.slice g1 b.L.length g2) (.slice A5 U.length c5)):=hbb.set 3 _
    have K3:Hid (Two2 w (w2.setCell ⟨w.heap.size,3,none⟩ (.slice A5 U.length c5)) {b with U:=U}):=AC ⟨⟨g1,g2,A5,c5,nb,V2.out⟩,K2.out.2.1.kp (AI hbb) gB (by omega),gB.q K2.out.2.2 (Nat.le_refl _)⟩
    have NB:=AC nb
    clear hbb hvv gB nb K2 h0 t2 q2
    go_upto_region 7 with fail
    clear k0 k1 k2 k3 k4 fz h1
    obtain⟨w3,hw3⟩:∃ x,x=w2.setCell ⟨w.heap.size,3,none⟩ (.slice A5 U.length c5):=⟨_,rfl⟩
    rw [← hw3] at V2 K3 NB ⊢
    clear hw3
    obtain⟨k0,k1,k2,k3,k4⟩:=AD NB.out
    have RB:=K3.out.2.1
    have RQ:=K3.out.2.2
    obtain⟨z1,z2,z3,z4,hbz,-⟩:=RB
    obtain⟨y0,y1,y2,y3,y4⟩:=AD hbz
    obtain⟨f0,f1,f2,f3,f4⟩:=AF hbz
    have RX:=AC hbz
    have RV:=AC V2.out
    have RQQ:=AC RQ
    clear RQ hbz
    go_wp2
    (try simp only [Exit.inBlock,Exit.then])
    obtain⟨wC,hwC⟩:∃ wC,wC=(((((w3.setCell ⟨w.heap.size+1,0,none⟩ (.string b.name)).setCell ⟨w.heap.size+1,1,none⟩ (.int .i64 b.st)).setCell ⟨w.heap.size+1,2,none⟩ (.slice g1 b.L.length g2)).setCell ⟨w.heap.size+1,3,none⟩ (.slice A5 U.length c5)).setCell ⟨w.heap.size+1,4,none⟩ (.int .u64 (b.last:Nat))):=⟨_,rfl⟩
    have gk:Kp (w.heap.size+1) w3 wC:=by rw [hwC];exact(((((Kp.of (Q.refl _)).set 0 _).set 1 _).set 2 _).set 3 _).set 4 _
    have bD:Bx wC (w.heap.size+1) 26 (bcl {b with U:=U} (.slice g1 (b.L.length) g2) (.slice A5 (U.length) c5)):=by rw [hwC];exact AM (b:={b with U:=U}) RX.out
    have vC:=RV.out.kp (AI RX.out) gk
    have qC:Q w wC:=gk.q RQQ.out (by omega)
    rw [← hwC]
    obtain⟨v0,v1,v2,v3,v4⟩:=AD bD
    refine bodyPost_ret (v:=.tuple #[.agg #[.string b.name,.int .i64 b.st,.slice g1 b.L.length g2,.slice A5 U.length c5,.int .u64 (b.last:Nat)],.int .i64 0]) ?_ rfl ⟨_,_,_,_,rfl,vC,qC⟩
    simp [results,Tryz.results40,go_sem,v0,v1,v2,v3,v4]
theorem KU(b:Bkt)(lv uv:Value)(w:World)(key:ByteArray)(id:Nat)(d:Bkt)(n t:Nat)(s:ByteArray)(k:Nat)(hF:BC b (FP b key id) d n t s k)(hn:b.name.size≤1000)(hs:smE b.L)(hu:smL b.U)(hk:key.size≤1000)(hv:BktV w b lv uv):
  Calls Tryz.prog 36 #[bkt b lv uv,.string key,.int .u64 (id:Nat)] w fun e w'=>∃ A c A' c',e=.returned (.tuple #[bkt d (.slice A d.L.length c) (.slice A' d.U.length c'),.int .i64 (k:Nat)])∧BktV w' d (.slice A d.L.length c) (.slice A' d.U.length c')∧Q w w':=by
 obtain⟨A1,c1,rfl⟩:=hv.1.form
 obtain⟨A2,c2,rfl⟩:=hv.2.form
 have K0:Hid (Two2 w ((w.alloc (.cells (bcl b (.slice A1 b.L.length c1) (.slice A2 b.U.length c2)) 26)).alloc (.cells #[.string ⟨#[]⟩,.int .i64 0,.slice none 0 0,.slice none 0 0,.int .u64 0] 26)) b):=AC (B5 hv)
 obtain⟨x0,hx0⟩:∃ z,z=((w.alloc (.cells (bcl b (.slice A1 b.L.length c1) (.slice A2 b.U.length c2)) 26)).alloc (.cells #[.string ⟨#[]⟩,.int .i64 0,.slice none 0 0,.slice none 0 0,.int .u64 0] 26)):=⟨_,rfl⟩
 rw [← hx0] at K0
 have OKV:=AC (CX key hv.1.okVs)
 have GE:=AC fun x v (hx:Ents x x.heap.size v b.L)=>Ei b.L key v x hs.1 hx
 have DR:=AC fun x v l e (h:DropC (BY b.L key) id l e) (hx:Vers x x.heap.size v (BY b.L key))=>Hf (BY b.L key) v id x l e h (CB _ _ hs.2) hx
 have WI:=AC fun x lv uv l vl (h:JB b key l d k) (hl:l.length≤1000) (hx:BktV x b lv uv) (hc:Vers x x.heap.size vl l)=>Eb b lv uv x key l vl d k h hs hu hk hl hx hc
 simp only [bkt] at WI
 have KY:=AC fun x=>Bn key x hk
 obtain⟨R,hR⟩:=Bw (okB b)
 have RM:=AC fun x lv uv (hx:BktV x b lv uv)=>BU b lv uv x R hR hn hs hu hx
 simp only [bkt] at RM
 have HRR:=AC hR
 clear hR
 have HF:=AC hF
 clear hF hn hs hu hv hk
 rw [bkt]
 go_enter Tryz.func36,Tryz.ntmps36
 simp only [bcl] at hx0
 go_upto_region 1 with fail
 rw [← hx0]
 clear hx0
 obtain⟨g1,g2,g3,g4,hbb,hvv⟩:=K0.out.1
 obtain⟨k0,k1,k2,k3,k4⟩:=AD hbb
 have C1:=AC (RM.out _ _ _ hvv)
 clear hbb hvv RM
 go_wp2_with fail
 refine(C1.out).mono ?_
 rintro e w1 ⟨rfl,q1⟩
 have K1:=AC (K0.out.on q1)
 clear C1 k0 k1 k2 k3 k4 K0 q1
 cases R with
 | false=>
   have hnb:¬ okB b:=by rcases HRR.out with⟨h,-⟩ | ⟨-,h⟩;exact absurd h (by decide);exact h
   obtain⟨rfl,rfl,rfl,rfl,rfl⟩:=Dy HF.out hnb
   clear hnb HRR HF GE DR WI KY
   obtain⟨g1,g2,g3,g4,hbb,hvv⟩:=K1.out.1
   obtain⟨k0,k1,k2,k3,k4⟩:=AD hbb
   have VV:=AC hvv
   clear hbb hvv
   have RB:=K1.out.2.1
   have RQ:=K1.out.2.2
   obtain⟨z1,z2,z3,z4,hbz,-⟩:=RB
   obtain⟨y0,y1,y2,y3,y4⟩:=AD hbz
   obtain⟨f0,f1,f2,f3,f4⟩:=AF hbz
   have RX:=AC hbz
   have RV:=AC VV.out
   have RQQ:=AC RQ
   clear RQ hbz
   go_wp2
   (try simp only [Exit.inBlock,Exit.then])
   obtain⟨wC,hwC⟩:∃ wC,wC=(((((w1.setCell ⟨w.heap.size+1,0,none⟩ (.string b.name)).setCell ⟨w.heap.size+1,1,none⟩ (.int .i64 b.st)).setCell ⟨w.heap.size+1,2,none⟩ (.slice g1 b.L.length g2)).setCell ⟨w.heap.size+1,3,none⟩ (.slice g3 b.U.length g4)).setCell ⟨w.heap.size+1,4,none⟩ (.int .u64 (b.last:Nat))):=⟨_,rfl⟩
   have gk:Kp (w.heap.size+1) w1 wC:=by rw [hwC];exact(((((Kp.of (Q.refl _)).set 0 _).set 1 _).set 2 _).set 3 _).set 4 _
   have bD:Bx wC (w.heap.size+1) 26 (bcl b (.slice g1 (b.L.length) g2) (.slice g3 (b.U.length) g4)):=by rw [hwC];exact AM (b:=b) RX.out
   have vC:=RV.out.kp (AI RX.out) gk
   have qC:Q w wC:=gk.q RQQ.out (by omega)
   rw [← hwC]
   obtain⟨v0,v1,v2,v3,v4⟩:=AD bD
   refine bodyPost_ret (v:=.tuple #[.agg #[.string b.name,.int .i64 b.st,.slice g1 b.L.length g2,.slice g3 b.U.length g4,.int .u64 (b.last:Nat)],.int .i64 1]) ?_ rfl ⟨_,_,_,_,rfl,vC,qC⟩
   simp [results,Tryz.results36,go_sem,v0,v1,v2,v3,v4]
 | true=>
   have hyb:okB b:=by rcases HRR.out with⟨-,h⟩ | ⟨h,-⟩;exact h;exact absurd h (by decide)
   rcases QA HF.out hyb with⟨hk0,rfl,rfl⟩ | ⟨hk0,l,e0,hD,hj⟩
   ·rw [hk0] at KY
    clear HF HRR hyb hk0 WI
    go_wp2_with fail
    refine(KY.out _).mono ?_
    rintro e w2 ⟨rfl,rfl⟩
    clear KY GE DR
    obtain⟨g1,g2,g3,g4,hbb,hvv⟩:=K1.out.1
    obtain⟨k0,k1,k2,k3,k4⟩:=AD hbb
    have VV:=AC hvv
    clear hbb hvv
    have RB:=K1.out.2.1
    have RQ:=K1.out.2.2
    obtain⟨z1,z2,z3,z4,hbz,-⟩:=RB
    obtain⟨y0,y1,y2,y3,y4⟩:=AD hbz
    obtain⟨f0,f1,f2,f3,f4⟩:=AF hbz
    have RX:=AC hbz
    have RV:=AC VV.out
    have RQQ:=AC RQ
    clear RQ hbz
    go_wp2
    (try simp only [Exit.inBlock,Exit.then])
    obtain⟨wC,hwC⟩:∃ wC,wC=(((((w1.setCell ⟨w.heap.size+1,0,none⟩ (.string b.name)).setCell ⟨w.heap.size+1,1,none⟩ (.int .i64 b.st)).setCell ⟨w.heap.size+1,2,none⟩ (.slice g1 b.L.length g2)).setCell ⟨w.heap.size+1,3,none⟩ (.slice g3 b.U.length g4)).setCell ⟨w.heap.size+1,4,none⟩ (.int .u64 (b.last:Nat))):=⟨_,rfl⟩
    have gk:Kp (w.heap.size+1) w1 wC:=by rw [hwC];exact(((((Kp.of (Q.refl _)).set 0 _).set 1 _).set 2 _).set 3 _).set 4 _
    have bD:Bx wC (w.heap.size+1) 26 (bcl b (.slice g1 (b.L.length) g2) (.slice g3 (b.U.length) g4)):=by rw [hwC];exact AM (b:=b) RX.out
    have vC:=RV.out.kp (AI RX.out) gk
    have qC:Q w wC:=gk.q RQQ.out (by omega)
    rw [← hwC]
    obtain⟨v0,v1,v2,v3,v4⟩:=AD bD
    refine bodyPost_ret (v:=.tuple #[.agg #[.string b.name,.int .i64 b.st,.slice g1 b.L.length g2,.slice g3 b.U.length g4,.int .u64 (b.last:Nat)],.int .i64 1]) ?_ rfl ⟨_,_,_,_,rfl,vC,qC⟩
    simp [results,Tryz.results36,go_sem,v0,v1,v2,v3,v4]
   rw [hk0] at KY
   clear HF HRR hyb hk0
   go_wp2_with fail
   refine(KY.out _).mono ?_
   rintro e w2 ⟨rfl,rfl⟩
   obtain⟨g1,g2,g3,g4,hbb,hvv⟩:=K1.out.1
   obtain⟨k0,k1,k2,k3,k4⟩:=AD hbb
   have C:=AC (GE.out _ _ hvv.1)
   clear hbb hvv GE KY
   go_wp2_with fail
   refine(C.out).mono ?_
   rintro e w2 ⟨v2,rfl,t2,q2⟩
   have K2:=AC (K1.out.on q2)
   have C2:=AC (DR.out _ _ _ _ hD t2)
   have hdl:=FG hD
   have OL:=FC hD OKV.out
   clear C k0 k1 k2 k3 k4 K1 hD DR t2 q2
   go_wp2_with fail
   refine(C2.out).mono ?_
   rintro e w3 ⟨v3,rfl,o3,q3⟩
   have K3:=AC (K2.out.on q3)
   have T3:=AC (o3.vers OL)
   have hdl2:=hdl
   clear C2 K2 q3 hdl
   rcases hj with⟨h0,rfl,rfl⟩ | ⟨h0,hW⟩
   ·have h1:((e0:Int) != 0)=true:=by simpa using h0
    clear h0 T3 o3 WI
    obtain⟨g1,g2,g3,g4,hbb,hvv⟩:=K3.out.1
    obtain⟨k0,k1,k2,k3,k4⟩:=AD hbb
    have VV:=AC hvv
    clear hbb hvv
    have RB:=K3.out.2.1
    have RQ:=K3.out.2.2
    obtain⟨z1,z2,z3,z4,hbz,-⟩:=RB
    obtain⟨y0,y1,y2,y3,y4⟩:=AD hbz
    obtain⟨f0,f1,f2,f3,f4⟩:=AF hbz
    have RX:=AC hbz
    have RV:=AC VV.out
    have RQQ:=AC RQ
    clear RQ hbz
    go_wp2
    (try simp only [Exit.inBlock,Exit.then])
    obtain⟨wC,hwC⟩:∃ wC,wC=(((((w3.setCell ⟨w.heap.size+1,0,none⟩ (.string b.name)).setCell ⟨w.heap.size+1,1,none⟩ (.int .i64 b.st)).setCell ⟨w.heap.size+1,2,none⟩ (.slice g1 b.L.length g2)).setCell ⟨w.heap.size+1,3,none⟩ (.slice g3 b.U.length g4)).setCell ⟨w.heap.size+1,4,none⟩ (.int .u64 (b.last:Nat))):=⟨_,rfl⟩
    have gk:Kp (w.heap.size+1) w3 wC:=by rw [hwC];exact(((((Kp.of (Q.refl _)).set 0 _).set 1 _).set 2 _).set 3 _).set 4 _
    have bD:Bx wC (w.heap.size+1) 26 (bcl b (.slice g1 (b.L.length) g2) (.slice g3 (b.U.length) g4)):=by rw [hwC];exact AM (b:=b) RX.out
    have vC:=RV.out.kp (AI RX.out) gk
    have qC:Q w wC:=gk.q RQQ.out (by omega)
    rw [← hwC]
    obtain⟨v0,v1,v2,v3,v4⟩:=AD bD
    refine bodyPost_ret (v:=.tuple #[.agg #[.string b.name,.int .i64 b.st,.slice g1 b.L.length g2,.slice g3 b.U.length g4,.int .u64 (b.last:Nat)],.int .i64 (e0:Nat)]) ?_ rfl ⟨_,_,_,_,rfl,vC,qC⟩
    simp [results,Tryz.results36,go_sem,v0,v1,v2,v3,v4]
   ·have h1:((e0:Int) != 0)=false:=by rw [h0];rfl
    obtain⟨A7,c7,rfl⟩:=Ae o3
    obtain⟨g1,g2,g3,g4,hbb,hvv⟩:=K3.out.1
    obtain⟨k0,k1,k2,k3,k4⟩:=AD hbb
    have C3:=AC (WI.out _ _ _ _ _ hW (by omega) hvv T3.out)
    clear hbb hvv hW h0 o3 WI hdl2 T3
    go_wp2_with fail
    refine(C3.out).mono ?_
    rintro e w4 ⟨A5,c5,A6,c6,rfl,v4,q4⟩
    have K4:=AC (K3.out.on q4)
    have V4:=AC v4
    clear C3 K3 v4 q4 k0 k1 k2 k3 k4
    simp only [bkt]
    have RB:=K4.out.2.1
    have RQ:=K4.out.2.2
    obtain⟨z1,z2,z3,z4,hbz,-⟩:=RB
    obtain⟨y0,y1,y2,y3,y4⟩:=AD hbz
    obtain⟨f0,f1,f2,f3,f4⟩:=AF hbz
    have RX:=AC hbz
    have RV:=AC V4.out
    have RQQ:=AC RQ
    clear RQ hbz
    go_wp2
    (try simp only [Exit.inBlock,Exit.then])
    obtain⟨wC,hwC⟩:∃ wC,wC=(((((w4.setCell ⟨w.heap.size+1,0,none⟩ (.string d.name)).setCell ⟨w.heap.size+1,1,none⟩ (.int .i64 d.st)).setCell ⟨w.heap.size+1,2,none⟩ (.slice A5 d.L.length c5)).setCell ⟨w.heap.size+1,3,none⟩ (.slice A6 d.U.length c6)).setCell ⟨w.heap.size+1,4,none⟩ (.int .u64 (d.last:Nat))):=⟨_,rfl⟩
    have gk:Kp (w.heap.size+1) w4 wC:=by rw [hwC];exact(((((Kp.of (Q.refl _)).set 0 _).set 1 _).set 2 _).set 3 _).set 4 _
    have bD:Bx wC (w.heap.size+1) 26 (bcl d (.slice A5 (d.L.length) c5) (.slice A6 (d.U.length) c6)):=by rw [hwC];exact AM (b:=d) RX.out
    have vC:=RV.out.kp (AI RX.out) gk
    have qC:Q w wC:=gk.q RQQ.out (by omega)
    rw [← hwC]
    obtain⟨v0,v1,v2,v3,v4⟩:=AD bD
    refine bodyPost_ret (v:=.tuple #[.agg #[.string d.name,.int .i64 d.st,.slice A5 d.L.length c5,.slice A6 d.U.length c6,.int .u64 (d.last:Nat)],.int .i64 (k:Nat)]) ?_ rfl ⟨_,_,_,_,rfl,vC,qC⟩
    simp [results,Tryz.results36,go_sem,v0,v1,v2,v3,v4]
end
end Go.Proofs.YtjjlbbfhmpbneaaGreat
