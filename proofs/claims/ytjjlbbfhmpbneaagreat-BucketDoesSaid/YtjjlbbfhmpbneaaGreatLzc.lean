/-
  Contracts of the document's Laid of a bucket.
-/
import Derived.Test.YtjjlbbfhmpbneaaGreatLzb
import Derived.Test.YtjjlbbfhmpbneaaGreatLgd
namespace Go.Proofs.YtjjlbbfhmpbneaaGreat
open Lib renaming hid → AC
set_option maxHeartbeats 16000000
set_option maxRecDepth 100000
set_option linter.unusedVariables false
set_option linter.unusedSimpArgs false
section
open Go.ChangeShapes Go.WideShapes Go.ChangeAt Go.RowKit Go.Shelf
theorem JX{b d:Bkt}{key:ByteArray}{M:Nat→List Ver→Nat→Prop}{R:Bkt→Nat→Nat→ByteArray→Nat→Prop}{n t:Nat}{s:ByteArray}{k:Nat}(hF:BC b R d n t s k)(hb:okB b)
  (hR:∀ d n t s k,R d n t s k→t=0∧s=noS∧∃ b1 m1 k1,Si b 0 key b1 m1 k1∧((k1≠0∧d=b1∧n=m1∧k=k1)∨(k1=0∧n=m1∧Sm b1 key (M m1) d k))) :
  (BD 1 60 ko key=false∧b=d∧n=0∧k=1)∨(BD 1 60 ko key=true∧b.st=1∧281474976710655≤b.last∧b=d∧n=0∧k=6)∨
  (BD 1 60 ko key=true∧∃ nx m,((b.st≠1∧nx=b∧m=0)∨(b.st=1∧b.last<281474976710655∧nx = {b with last:=b.last+1}∧m=b.last+1))∧∃ l e,M m l e∧((e≠0∧b=d∧n=0∧e=k)∨(e=0∧∃ o k',JB nx key l o k'∧((k'≠0∧b=d∧n=0∧k'=k)∨(k'=0∧o=d∧n=m∧k=0))))):=by
 obtain⟨d1,n1,t1,s1,k1,hr,h⟩:=DI hF hb
 clear hF
 obtain⟨-,-,b1,m1,k2,hg,hS⟩:=hR _ _ _ _ _ hr
 have rest:∀ nx m,nx=b1→m=m1→k2=0→BD 1 60 ko key=true→((b.st≠1∧nx=b∧m=0)∨(b.st=1∧b.last<281474976710655∧nx = {b with last:=b.last+1}∧m=b.last+1))→
   (BD 1 60 ko key=true∧∃ nx m,((b.st≠1∧nx=b∧m=0)∨(b.st=1∧b.last<281474976710655∧nx = {b with last:=b.last+1}∧m=b.last+1))∧∃ l e,M m l e∧((e≠0∧b=d∧n=0∧e=k)∨(e=0∧∃ o k',JB nx key l o k'∧((k'≠0∧b=d∧n=0∧k'=k)∨(k'=0∧o=d∧n=m∧k=0))))):=fun nx m e1 e2 e3 hk hc=>by
  refine⟨hk,nx,m,hc,?_⟩
  subst e1 e2
  rcases hS with⟨h0,-⟩ | ⟨-,rfl,l,e,hM,hs⟩
  ·exact absurd e3 h0
  refine⟨l,e,hM,?_⟩
  rcases hs with⟨h0,-,rfl⟩ | ⟨h0,L,j,hP,rfl,rfl⟩
  ·rcases h with⟨-,h,rfl⟩ | ⟨h,-⟩ | ⟨h,-⟩
   ·exact .inl ⟨h0,h.1.symm,h.2.1,rfl⟩
   ·omega
   ·omega
  ·refine .inr ⟨h0,?_⟩
   rcases h with⟨h2,h,rfl⟩ | ⟨h2,h3,h,rfl⟩ | ⟨h2,h3,h,rfl⟩
   ·exact⟨nx,_,⟨L,_,hP,.inl ⟨h2,rfl,rfl⟩⟩,.inl ⟨h2,h.1.symm,h.2.1,rfl⟩⟩
   ·exact⟨nx,6,⟨L,_,hP,.inr (.inl ⟨h2,h3,rfl,rfl⟩)⟩,.inl ⟨by decide,h.1.symm,h.2.1,rfl⟩⟩
   ·exact⟨_,0,⟨L,_,hP,.inr (.inr ⟨h2,h3,rfl,rfl⟩)⟩,.inr ⟨rfl,h.1.symm,h.2.1,rfl⟩⟩
 rcases hg with⟨hk,rfl,rfl,rfl⟩ | ⟨hk,hst,rfl,rfl,rfl⟩ | ⟨hk,hst,⟨hl,rfl,rfl,rfl⟩ | ⟨hl,rfl,rfl,rfl⟩⟩
 ·refine .inl ⟨hk,?_⟩
  rcases hS with⟨-,-,-,rfl⟩ | ⟨h0,-⟩
  ·rcases h with⟨-,h,rfl⟩ | ⟨h,-⟩ | ⟨h,-⟩
   ·exact⟨h.1.symm,h.2.1,rfl⟩
   ·omega
   ·omega
  ·omega
 ·exact .inr (.inr (rest _ _ rfl rfl rfl hk (.inl ⟨hst,rfl,rfl⟩)))
 ·refine .inr (.inl ⟨hk,hst,hl,?_⟩)
  rcases hS with⟨-,-,-,rfl⟩ | ⟨h0,-⟩
  ·rcases h with⟨-,h,rfl⟩ | ⟨h,-⟩ | ⟨h,-⟩
   ·exact⟨h.1.symm,h.2.1,rfl⟩
   ·omega
   ·omega
  ·omega
 ·exact .inr (.inr (rest _ _ rfl rfl rfl hk (.inr ⟨hst,hl,rfl,rfl⟩)))
theorem Dj(b:Bkt)(lv uv:Value)(w:World)(key data:ByteArray)(tm:Int)(d:Bkt)(n t:Nat)(s:ByteArray)(k:Nat)(hF:BC b (ID b key data tm) d n t s k)(hn:b.name.size≤1000)(hs:smE b.L)(hu:smL b.U)(hk:key.size≤1000)(hd:data.size≤maxLen)(tl : -9223372036854775808≤tm)(tu:tm≤9223372036854775807)(hv:BktV w b lv uv):
  Calls Tryz.prog 35 #[bkt b lv uv,.string key,.string data,.bool false,.int .i64 tm] w fun e w'=>∃ A c A' c',e=.returned (.tuple #[bkt d (.slice A d.L.length c) (.slice A' d.U.length c'),.int .u64 (n:Nat),.int .i64 (k:Nat)])∧BktV w' d (.slice A d.L.length c) (.slice A' d.U.length c')∧Q w w':=by
 obtain⟨A1,c1,rfl⟩:=hv.1.form
 obtain⟨A2,c2,rfl⟩:=hv.2.form
 have K0:Hid (Two2 w ((w.alloc (.cells (bcl b (.slice A1 b.L.length c1) (.slice A2 b.U.length c2)) 26)).alloc (.cells #[.string ⟨#[]⟩,.int .i64 0,.slice none 0 0,.slice none 0 0,.int .u64 0] 26)) b):=AC (B5 hv)
 obtain⟨x0,hx0⟩:∃ z,z=((w.alloc (.cells (bcl b (.slice A1 b.L.length c1) (.slice A2 b.U.length c2)) 26)).alloc (.cells #[.string ⟨#[]⟩,.int .i64 0,.slice none 0 0,.slice none 0 0,.int .u64 0] 26)):=⟨_,rfl⟩
 rw [← hx0] at K0
 have OKV:=AC (CX key hv.1.okVs)
 have HDT:Hid (data.size≤maxLen∧-9223372036854775808≤tm∧tm≤9223372036854775807):=AC ⟨hd,tl,tu⟩
 have GE:=AC fun x v (hx:Ents x x.heap.size v b.L)=>Ei b.L key v x hs.1 hx
 have PU:=AC fun x v (m:Nat) l e (hm:m<18446744073709551616) (h:PutC (BY b.L key) b.st ⟨m,data,false,tm⟩ l e) (hx:Vers x x.heap.size v (BY b.L key))=>EG (BY b.L key) v b.st ⟨m,data,false,tm⟩ x l e h (CB _ _ hs.2) ⟨hm,hd,tl,tu⟩ hx
 have WI:=AC fun x (nx:Bkt) lv uv l vl o (k':Nat) (hn:nx.L=b.L∧nx.U=b.U) (h:JB nx key l o k') (hl:l.length≤1000) (hx:BktV x nx lv uv) (hc:Vers x x.heap.size vl l)=>Eb nx lv uv x key l vl o k' h (by rw [hn.1];exact hs) (by rw [hn.2];exact hu) hk hl hx hc
 simp only [bkt,ver] at WI PU
 have KY:=AC fun x=>Bn key x hk
 obtain⟨R,hR⟩:=Bw (okB b)
 have RM:=AC fun x lv uv (hx:BktV x b lv uv)=>BU b lv uv x R hR hn hs hu hx
 simp only [bkt] at RM
 have HRR:=AC hR
 clear hR
 have HF:=AC hF
 clear hF hn hs hu hv hk hd tl tu
 rw [bkt]
 go_enter Tryz.func35,Tryz.ntmps35
 simp only [bcl] at hx0
 go_upto_region 1 with fail
 rw [← hx0]
 clear hx0
 obtain⟨g1,g2,g3,g4,hbb,hvv⟩:=K0.out.1
 obtain⟨k0,k1,k2,k3,k4⟩:=AD hbb
 have C1:=AC (RM.out _ _ _ hvv)
 clear hbb hvv RM
 go_wp2_with fail
 refine(C1.out).mono ?_
 rintro e w1 ⟨rfl,q1⟩
 have K1:=AC (K0.out.on q1)
 clear C1 k0 k1 k2 k3 k4 K0 q1
 cases R with
 | false=>
   have hnb:¬ okB b:=by rcases HRR.out with⟨h,-⟩ | ⟨-,h⟩;exact absurd h (by decide);exact h
   obtain⟨rfl,rfl,rfl,rfl,rfl⟩:=Dy HF.out hnb
   clear hnb HRR HF GE PU WI KY
   obtain⟨g1,g2,g3,g4,hbb,hvv⟩:=K1.out.1
   obtain⟨k0,k1,k2,k3,k4⟩:=AD hbb
   have VV:=AC hvv
   clear hbb hvv
   have RB:=K1.out.2.1
   have RQ:=K1.out.2.2
   obtain⟨z1,z2,z3,z4,hbz,-⟩:=RB
   obtain⟨y0,y1,y2,y3,y4⟩:=AD hbz
   obtain⟨f0,f1,f2,f3,f4⟩:=AF hbz
   have RX:=AC hbz
   have RV:=AC VV.out
   have RQQ:=AC RQ
   clear RQ hbz
   go_wp2
   (try simp only [Exit.inBlock,Exit.then])
   obtain⟨wC,hwC⟩:∃ wC,wC=(((((w1.setCell ⟨w.heap.size+1,0,none⟩ (.string b.name)).setCell ⟨w.heap.size+1,1,none⟩ (.int .i64 b.st)).setCell ⟨w.heap.size+1,2,none⟩ (.slice g1 b.L.length g2)).setCell ⟨w.heap.size+1,3,none⟩ (.slice g3 b.U.length g4)).setCell ⟨w.heap.size+1,4,none⟩ (.int .u64 (b.last:Nat))):=⟨_,rfl⟩
   have gk:Kp (w.heap.size+1) w1 wC:=by rw [hwC];exact(((((Kp.of (Q.refl _)).set 0 _).set 1 _).set 2 _).set 3 _).set 4 _
   have bD:Bx wC (w.heap.size+1) 26 (bcl b (.slice g1 (b.L.length) g2) (.slice g3 (b.U.length) g4)):=by rw [hwC];exact AM (b:=b) RX.out
   have vC:=RV.out.kp (AI RX.out) gk
   have qC:Q w wC:=gk.q RQQ.out (by omega)
   rw [← hwC]
   obtain⟨v0,v1,v2,v3,v4⟩:=AD bD
   refine bodyPost_ret (v:=.tuple #[.agg #[.string b.name,.int .i64 b.st,.slice g1 b.L.length g2,.slice g3 b.U.length g4,.int .u64 (b.last:Nat)],.int .u64 0,.int .i64 1]) ?_ rfl ⟨_,_,_,_,rfl,vC,qC⟩
   simp [results,Tryz.results35,go_sem,v0,v1,v2,v3,v4]
 | true=>
   have hyb:okB b:=by rcases HRR.out with⟨-,h⟩ | ⟨h,-⟩;exact h;exact absurd h (by decide)
   rcases JX (M:=fun m=>PutC (BY b.L key) b.st ⟨m,data,false,tm⟩) HF.out hyb (fun d n t s k h=>⟨h.2.1,h.2.2,by obtain⟨b1,m1,k1,hg,hr⟩:=h.1;have e:=DZ hg;rw [e.1,e.2.2.1] at hr;exact⟨b1,m1,k1,hg,hr⟩⟩) with⟨hk0,rfl,rfl,rfl⟩ | ⟨hk0,hst,hla,rfl,rfl,rfl⟩ | ⟨hk0,nx,m,hnm,l,e0,hM,hj⟩
   ·rw [hk0] at KY
    clear HF HRR hyb hk0 WI
    go_wp2_with fail
    refine(KY.out _).mono ?_
    rintro e w2 ⟨rfl,rfl⟩
    clear KY GE PU
    obtain⟨g1,g2,g3,g4,hbb,hvv⟩:=K1.out.1
    obtain⟨k0,k1,k2,k3,k4⟩:=AD hbb
    have VV:=AC hvv
    clear hbb hvv
    have RB:=K1.out.2.1
    have RQ:=K1.out.2.2
    obtain⟨z1,z2,z3,z4,hbz,-⟩:=RB
    obtain⟨y0,y1,y2,y3,y4⟩:=AD hbz
    obtain⟨f0,f1,f2,f3,f4⟩:=AF hbz
    have RX:=AC hbz
    have RV:=AC VV.out
    have RQQ:=AC RQ
    clear RQ hbz
    go_wp2
    (try simp only [Exit.inBlock,Exit.then])
    obtain⟨wC,hwC⟩:∃ wC,wC=(((((w1.setCell ⟨w.heap.size+1,0,none⟩ (.string b.name)).setCell ⟨w.heap.size+1,1,none⟩ (.int .i64 b.st)).setCell ⟨w.heap.size+1,2,none⟩ (.slice g1 b.L.length g2)).setCell ⟨w.heap.size+1,3,none⟩ (.slice g3 b.U.length g4)).setCell ⟨w.heap.size+1,4,none⟩ (.int .u64 (b.last:Nat))):=⟨_,rfl⟩
    have gk:Kp (w.heap.size+1) w1 wC:=by rw [hwC];exact(((((Kp.of (Q.refl _)).set 0 _).set 1 _).set 2 _).set 3 _).set 4 _
    have bD:Bx wC (w.heap.size+1) 26 (bcl b (.slice g1 (b.L.length) g2) (.slice g3 (b.U.length) g4)):=by rw [hwC];exact AM (b:=b) RX.out
    have vC:=RV.out.kp (AI RX.out) gk
    have qC:Q w wC:=gk.q RQQ.out (by omega)
    rw [← hwC]
    obtain⟨v0,v1,v2,v3,v4⟩:=AD bD
    refine bodyPost_ret (v:=.tuple #[.agg #[.string b.name,.int .i64 b.st,.slice g1 b.L.length g2,.slice g3 b.U.length g4,.int .u64 (b.last:Nat)],.int .u64 0,.int .i64 1]) ?_ rfl ⟨_,_,_,_,rfl,vC,qC⟩
    simp [results,Tryz.results35,go_sem,v0,v1,v2,v3,v4]
   ·rw [hk0] at KY
    have h9:(b.st==1)=true:=by rw [hst];rfl
    have h7:(281474976710655:Int)≤(b.last:Int):=by omega
    clear HF HRR hyb hk0 WI hst hla GE PU
    go_wp2_with fail
    refine(KY.out _).mono ?_
    rintro e w2 ⟨rfl,rfl⟩
    obtain⟨g1,g2,g3,g4,hbb,hvv⟩:=K1.out.1
    obtain⟨k0,k1,k2,k3,k4⟩:=AD hbb
    have NX:=AC (BoxB.new hvv)
    have K2:=AC (K1.out.on ((Q.refl w1).alloc (.cells #[.string b.name,.int .i64 b.st,.slice g1 b.L.length g2,.slice g3 b.U.length g4,.int .u64 (b.last:Nat)] 26)))
    have LT:Hid (w.heap.size+1<w1.heap.size):=AC K1.out.2.1.lt
    clear hbb hvv KY K1
    go_upto_region 4 with fail
    clear k0 k1 k2 k3 k4
    obtain⟨w2,hw2⟩:∃ x,x=(w1.alloc (.cells #[.string b.name,.int .i64 b.st,.slice g1 b.L.length g2,.slice g3 b.U.length g4,.int .u64 (b.last:Nat)] 26)):=⟨_,rfl⟩
    obtain⟨p2,hp2⟩:∃ x,x=w1.heap.size:=⟨_,rfl⟩
    rw [← hw2] at NX K2 ⊢
    rw [← hp2] at NX LT ⊢
    clear hw2 hp2
    obtain⟨g1,g2,g3,g4,hbb,-⟩:=K2.out.1
    obtain⟨k0,k1,k2,k3,k4⟩:=AD hbb
    clear hbb
    go_upto_region 7 with fail
    clear k0 k1 k2 k3 k4 h9 h7
    obtain⟨g1,g2,g3,g4,hbb,hvv⟩:=K2.out.1
    obtain⟨k0,k1,k2,k3,k4⟩:=AD hbb
    have VV:=AC hvv
    clear hbb hvv
    have RB:=K2.out.2.1
    have RQ:=K2.out.2.2
    obtain⟨z1,z2,z3,z4,hbz,-⟩:=RB
    obtain⟨y0,y1,y2,y3,y4⟩:=AD hbz
    obtain⟨f0,f1,f2,f3,f4⟩:=AF hbz
    have RX:=AC hbz
    have RV:=AC VV.out
    have RQQ:=AC RQ
    clear RQ hbz
    go_wp2
    (try simp only [Exit.inBlock,Exit.then])
    obtain⟨wC,hwC⟩:∃ wC,wC=(((((w2.setCell ⟨w.heap.size+1,0,none⟩ (.string b.name)).setCell ⟨w.heap.size+1,1,none⟩ (.int .i64 b.st)).setCell ⟨w.heap.size+1,2,none⟩ (.slice g1 b.L.length g2)).setCell ⟨w.heap.size+1,3,none⟩ (.slice g3 b.U.length g4)).setCell ⟨w.heap.size+1,4,none⟩ (.int .u64 (b.last:Nat))):=⟨_,rfl⟩
    have gk:Kp (w.heap.size+1) w2 wC:=by rw [hwC];exact(((((Kp.of (Q.refl _)).set 0 _).set 1 _).set 2 _).set 3 _).set 4 _
    have bD:Bx wC (w.heap.size+1) 26 (bcl b (.slice g1 (b.L.length) g2) (.slice g3 (b.U.length) g4)):=by rw [hwC];exact AM (b:=b) RX.out
    have vC:=RV.out.kp (AI RX.out) gk
    have qC:Q w wC:=gk.q RQQ.out (by omega)
    rw [← hwC]
    obtain⟨v0,v1,v2,v3,v4⟩:=AD bD
    refine bodyPost_ret (v:=.tuple #[.agg #[.string b.name,.int .i64 b.st,.slice g1 b.L.length g2,.slice g3 b.U.length g4,.int .u64 (b.last:Nat)],.int .u64 0,.int .i64 6]) ?_ rfl ⟨_,_,_,_,rfl,vC,qC⟩
    simp [results,Tryz.results35,go_sem,v0,v1,v2,v3,v4]
   rw [hk0] at KY
   have hbl:=hyb.2.2.1
   clear HF HRR hyb hk0
   go_wp2_with fail
   refine(KY.out _).mono ?_
   rintro e w2 ⟨rfl,rfl⟩
   obtain⟨g1,g2,g3,g4,hbb,hvv⟩:=K1.out.1
   obtain⟨k0,k1,k2,k3,k4⟩:=AD hbb
   have NX:=AC (BoxB.new hvv)
   have K2:=AC (K1.out.on ((Q.refl w1).alloc (.cells #[.string b.name,.int .i64 b.st,.slice g1 b.L.length g2,.slice g3 b.U.length g4,.int .u64 (b.last:Nat)] 26)))
   have LT:Hid (w.heap.size+1<w1.heap.size):=AC K1.out.2.1.lt
   clear hbb hvv KY K1
   go_upto_region 4 with fail
   clear k0 k1 k2 k3 k4
   obtain⟨w2,hw2⟩:∃ x,x=(w1.alloc (.cells #[.string b.name,.int .i64 b.st,.slice g1 b.L.length g2,.slice g3 b.U.length g4,.int .u64 (b.last:Nat)] 26)):=⟨_,rfl⟩
   obtain⟨p2,hp2⟩:∃ x,x=w1.heap.size:=⟨_,rfl⟩
   rw [← hw2] at NX K2 ⊢
   rw [← hp2] at NX LT ⊢
   clear hw2 hp2
   obtain⟨g1,g2,g3,g4,hbb,-⟩:=K2.out.1
   obtain⟨k0,k1,k2,k3,k4⟩:=AD hbb
   clear hbb
   have hml:m<18446744073709551616:=by
    rcases hnm with⟨-,-,e⟩ | ⟨-,-,-,e⟩ <;> omega
   rcases hnm with⟨hst,e1,e2⟩ | ⟨hst,hla,e1,e2⟩
   ·have h9:(b.st==1)=false:=by simpa using hst
    have HNX:Hid (nx.L=b.L∧nx.U=b.U):=AC (by rw [e1];exact⟨rfl,rfl⟩)
    have NX2:Hid (BoxB w2 p2 nx):=AC (by rw [e1];exact NX.out)
    subst e2
    clear e1 hst hbl NX LT
    go_upto_region 10 with fail
    clear k0 k1 k2 k3 k4 h9
    have KN:=K2
    have NX:=NX2
    clear K2 NX2
    obtain⟨g1,g2,g3,g4,hbb,hvv⟩:=KN.out.1
    obtain⟨k0,k1,k2,k3,k4⟩:=AD hbb
    have C:=AC (GE.out _ _ hvv.1)
    clear hbb hvv GE
    go_wp2_with fail
    refine(C.out).mono ?_
    rintro e w4 ⟨v4,rfl,t4,q4⟩
    have K4:=AC (KN.out.on q4)
    have N4:=AC (NX.out.on q4)
    clear C k0 k1 k2 k3 k4 KN NX
    have T4:=AC t4
    obtain⟨g1,g2,g3,g4,hbb,hvv⟩:=K4.out.1
    obtain⟨k0,k1,k2,k3,k4⟩:=AD hbb
    clear hbb hvv t4 q4
    have C4:=AC (PU.out _ _ 0 _ _ hml hM T4.out)
    have OL:=EH hM OKV.out ⟨hml,HDT.out.1,HDT.out.2.1,HDT.out.2.2⟩
    have hll:=EI hM
    clear PU hM T4
    go_wp2_with fail
    refine(C4.out).mono ?_
    rintro e w5 ⟨v5,rfl,o5,q5⟩
    have K5:=AC (K4.out.on q5)
    have N5:=AC (N4.out.on q5)
    have T5:=AC (o5.vers OL)
    obtain⟨A5,c5,rfl⟩:=Ae o5
    clear C4 K4 N4 q5 o5 k0 k1 k2 k3 k4 OL
    rcases hj with⟨h0,rfl,rfl,rfl⟩ | ⟨h0,o,k',hW,hj⟩
    ·have h1:((e0:Int) != 0)=true:=by simpa using h0
     clear h0 T5 WI N5
     obtain⟨g1,g2,g3,g4,hbb,hvv⟩:=K5.out.1
     obtain⟨k0,k1,k2,k3,k4⟩:=AD hbb
     have VV:=AC hvv
     clear hbb hvv
     have RB:=K5.out.2.1
     have RQ:=K5.out.2.2
     obtain⟨z1,z2,z3,z4,hbz,-⟩:=RB
     obtain⟨y0,y1,y2,y3,y4⟩:=AD hbz
     obtain⟨f0,f1,f2,f3,f4⟩:=AF hbz
     have RX:=AC hbz
     have RV:=AC VV.out
     have RQQ:=AC RQ
     clear RQ hbz
     go_wp2
     (try simp only [Exit.inBlock,Exit.then])
     obtain⟨wC,hwC⟩:∃ wC,wC=(((((w5.setCell ⟨w.heap.size+1,0,none⟩ (.string b.name)).setCell ⟨w.heap.size+1,1,none⟩ (.int .i64 b.st)).setCell ⟨w.heap.size+1,2,none⟩ (.slice g1 b.L.length g2)).setCell ⟨w.heap.size+1,3,none⟩ (.slice g3 b.U.length g4)).setCell ⟨w.heap.size+1,4,none⟩ (.int .u64 (b.last:Nat))):=⟨_,rfl⟩
     have gk:Kp (w.heap.size+1) w5 wC:=by rw [hwC];exact(((((Kp.of (Q.refl _)).set 0 _).set 1 _).set 2 _).set 3 _).set 4 _
     have bD:Bx wC (w.heap.size+1) 26 (bcl b (.slice g1 (b.L.length) g2) (.slice g3 (b.U.length) g4)):=by rw [hwC];exact AM (b:=b) RX.out
     have vC:=RV.out.kp (AI RX.out) gk
     have qC:Q w wC:=gk.q RQQ.out (by omega)
     rw [← hwC]
     obtain⟨v0,v1,v2,v3,v4⟩:=AD bD
     refine bodyPost_ret (v:=.tuple #[.agg #[.string b.name,.int .i64 b.st,.slice g1 b.L.length g2,.slice g3 b.U.length g4,.int .u64 (b.last:Nat)],.int .u64 0,.int .i64 (e0:Nat)]) ?_ rfl ⟨_,_,_,_,rfl,vC,qC⟩
     simp [results,Tryz.results35,go_sem,v0,v1,v2,v3,v4]
    have h1:((e0:Int) != 0)=false:=by rw [h0];rfl
    obtain⟨g1,g2,g3,g4,hbb,hvv⟩:=N5.out
    obtain⟨k0,k1,k2,k3,k4⟩:=AD hbb
    have C6:=AC (WI.out _ _ _ _ _ _ _ _ HNX.out hW (by omega) hvv T5.out)
    clear hbb hvv hW h0 WI hll T5 N5
    go_wp2_with fail
    refine(C6.out).mono ?_
    rintro e w7 ⟨A7,c7,A8,c8,rfl,v7,q7⟩
    have K7:=AC (K5.out.on q7)
    clear C6 K5 q7 k0 k1 k2 k3 k4 h1
    have NB0:=BoxB.new v7
    have NV0:=v7.on ((Q.refl w7).alloc (.cells #[.string o.name,.int .i64 o.st,.slice A7 o.L.length c7,.slice A8 o.U.length c8,.int .u64 (o.last:Nat)] 26))
    have NX0:Hid (Bx (w7.alloc (.cells #[.string o.name,.int .i64 o.st,.slice A7 o.L.length c7,.slice A8 o.U.length c8,.int .u64 (o.last:Nat)] 26)) w7.heap.size 26 (bcl o (.slice A7 o.L.length c7) (.slice A8 o.U.length c8))):=AC (Bx.new _ _ _)
    have V8:=AC NV0
    have K8:=AC (K7.out.on ((Q.refl w7).alloc (.cells #[.string o.name,.int .i64 o.st,.slice A7 o.L.length c7,.slice A8 o.U.length c8,.int .u64 (o.last:Nat)] 26)))
    clear NB0 NV0 v7 K7
    go_upto_region 17 with fail
    obtain⟨w8,hw8⟩:∃ x,x=w7.alloc (.cells #[.string o.name,.int .i64 o.st,.slice A7 o.L.length c7,.slice A8 o.U.length c8,.int .u64 (o.last:Nat)] 26):=⟨_,rfl⟩
    obtain⟨p8,hp8⟩:∃ x,x=w7.heap.size:=⟨_,rfl⟩
    rw [← hw8] at NX0 V8 K8 ⊢
    rw [← hp8] at NX0 ⊢
    clear hw8 hp8
    rcases hj with⟨h0,rfl,rfl,rfl⟩ | ⟨h0,rfl,rfl,rfl⟩
    ·have h1:((k':Int) != 0)=true:=by simpa using h0
     clear h0 V8 NX0
     obtain⟨g1,g2,g3,g4,hbb,hvv⟩:=K8.out.1
     obtain⟨k0,k1,k2,k3,k4⟩:=AD hbb
     have VV:=AC hvv
     clear hbb hvv
     have RB:=K8.out.2.1
     have RQ:=K8.out.2.2
     obtain⟨z1,z2,z3,z4,hbz,-⟩:=RB
     obtain⟨y0,y1,y2,y3,y4⟩:=AD hbz
     obtain⟨f0,f1,f2,f3,f4⟩:=AF hbz
     have RX:=AC hbz
     have RV:=AC VV.out
     have RQQ:=AC RQ
     clear RQ hbz
     go_wp2
     (try simp only [Exit.inBlock,Exit.then])
     obtain⟨wC,hwC⟩:∃ wC,wC=(((((w8.setCell ⟨w.heap.size+1,0,none⟩ (.string b.name)).setCell ⟨w.heap.size+1,1,none⟩ (.int .i64 b.st)).setCell ⟨w.heap.size+1,2,none⟩ (.slice g1 b.L.length g2)).setCell ⟨w.heap.size+1,3,none⟩ (.slice g3 b.U.length g4)).setCell ⟨w.heap.size+1,4,none⟩ (.int .u64 (b.last:Nat))):=⟨_,rfl⟩
     have gk:Kp (w.heap.size+1) w8 wC:=by rw [hwC];exact(((((Kp.of (Q.refl _)).set 0 _).set 1 _).set 2 _).set 3 _).set 4 _
     have bD:Bx wC (w.heap.size+1) 26 (bcl b (.slice g1 (b.L.length) g2) (.slice g3 (b.U.length) g4)):=by rw [hwC];exact AM (b:=b) RX.out
     have vC:=RV.out.kp (AI RX.out) gk
     have qC:Q w wC:=gk.q RQQ.out (by omega)
     rw [← hwC]
     obtain⟨v0,v1,v2,v3,v4⟩:=AD bD
     refine bodyPost_ret (v:=.tuple #[.agg #[.string b.name,.int .i64 b.st,.slice g1 b.L.length g2,.slice g3 b.U.length g4,.int .u64 (b.last:Nat)],.int .u64 0,.int .i64 (k':Nat)]) ?_ rfl ⟨_,_,_,_,rfl,vC,qC⟩
     simp [results,Tryz.results35,go_sem,v0,v1,v2,v3,v4]
    ·have h1:((k':Int) != 0)=false:=by rw [h0];rfl
     clear h0
     obtain⟨k0,k1,k2,k3,k4⟩:=AD NX0.out
     have RB:=K8.out.2.1
     have RQ:=K8.out.2.2
     obtain⟨z1,z2,z3,z4,hbz,-⟩:=RB
     obtain⟨y0,y1,y2,y3,y4⟩:=AD hbz
     obtain⟨f0,f1,f2,f3,f4⟩:=AF hbz
     have RX:=AC hbz
     have RV:=AC V8.out
     have RQQ:=AC RQ
     clear RQ hbz
     go_wp2
     (try simp only [Exit.inBlock,Exit.then])
     obtain⟨wC,hwC⟩:∃ wC,wC=(((((w8.setCell ⟨w.heap.size+1,0,none⟩ (.string o.name)).setCell ⟨w.heap.size+1,1,none⟩ (.int .i64 o.st)).setCell ⟨w.heap.size+1,2,none⟩ (.slice A7 o.L.length c7)).setCell ⟨w.heap.size+1,3,none⟩ (.slice A8 o.U.length c8)).setCell ⟨w.heap.size+1,4,none⟩ (.int .u64 (o.last:Nat))):=⟨_,rfl⟩
     have gk:Kp (w.heap.size+1) w8 wC:=by rw [hwC];exact(((((Kp.of (Q.refl _)).set 0 _).set 1 _).set 2 _).set 3 _).set 4 _
     have bD:Bx wC (w.heap.size+1) 26 (bcl o (.slice A7 (o.L.length) c7) (.slice A8 (o.U.length) c8)):=by rw [hwC];exact AM (b:=o) RX.out
     have vC:=RV.out.kp (AI RX.out) gk
     have qC:Q w wC:=gk.q RQQ.out (by omega)
     rw [← hwC]
     obtain⟨v0,v1,v2,v3,v4⟩:=AD bD
     refine bodyPost_ret (v:=.tuple #[.agg #[.string o.name,.int .i64 o.st,.slice A7 o.L.length c7,.slice A8 o.U.length c8,.int .u64 (o.last:Nat)],.int .u64 0,.int .i64 0]) ?_ rfl ⟨_,_,_,_,rfl,vC,qC⟩
     simp [results,Tryz.results35,go_sem,v0,v1,v2,v3,v4]
   ·have h9:(b.st==1)=true:=by rw [hst];rfl
    have h7:¬ (281474976710655:Int)≤(b.last:Int):=by omega
    have HNX:Hid (nx.L=b.L∧nx.U=b.U):=AC (by rw [e1];exact⟨rfl,rfl⟩)
    obtain⟨z1,z2,z3,z4,hb2,hv2⟩:=NX.out
    obtain⟨j0,j1,j2,j3,j4⟩:=AD hb2
    have fz:=hb2.frozen 4
    have gB:Kp p2 w2 (w2.setCell ⟨p2,4,none⟩ (.int .u64 (m:Nat))):=(Kp.of (Q.refl w2)).set 4 _
    have e9:(b.last:Int)+1=(m:Int):=by omega
    have nb:Bx (w2.setCell ⟨p2,4,none⟩ (.int .u64 (m:Nat))) p2 26 (bcl {b with last:=m} (.slice z1 b.L.length z2) (.slice z3 b.U.length z4)):=hb2.set 4 _
    have NX2:Hid (BoxB (w2.setCell ⟨p2,4,none⟩ (.int .u64 (m:Nat))) p2 nx):=AC (by rw [e1,← e2];exact⟨z1,z2,z3,z4,nb,hv2.kp (AI hb2) gB⟩)
    have KN:Hid (Two2 w (w2.setCell ⟨p2,4,none⟩ (.int .u64 (m:Nat))) b):=AC ⟨K2.out.1.kp (AI hb2) gB (by have:=LT.out;omega),K2.out.2.1.kp (AI hb2) gB (by have:=LT.out;omega),gB.q K2.out.2.2 (by have:=LT.out;omega)⟩
    have E9:=AC e9
    clear e1 e2 e9 hst hla hb2 hv2 gB nb NX K2 LT
    go_upto_region 10 with fail
    clear k0 k1 k2 k3 k4 h9 h7 j0 j1 j2 j3 j4 fz
    rw [E9.out]
    clear E9 hbl
    obtain⟨w3,hw3⟩:∃ x,x=w2.setCell ⟨p2,4,none⟩ (.int .u64 (m:Nat)):=⟨_,rfl⟩
    rw [← hw3] at NX2 KN ⊢
    clear hw3
    have NX:=NX2
    clear NX2
    obtain⟨g1,g2,g3,g4,hbb,hvv⟩:=KN.out.1
    obtain⟨k0,k1,k2,k3,k4⟩:=AD hbb
    have C:=AC (GE.out _ _ hvv.1)
    clear hbb hvv GE
    go_wp2_with fail
    refine(C.out).mono ?_
    rintro e w4 ⟨v4,rfl,t4,q4⟩
    have K4:=AC (KN.out.on q4)
    have N4:=AC (NX.out.on q4)
    clear C k0 k1 k2 k3 k4 KN NX
    have T4:=AC t4
    obtain⟨g1,g2,g3,g4,hbb,hvv⟩:=K4.out.1
    obtain⟨k0,k1,k2,k3,k4⟩:=AD hbb
    clear hbb hvv t4 q4
    have C4:=AC (PU.out _ _ m _ _ hml hM T4.out)
    have OL:=EH hM OKV.out ⟨hml,HDT.out.1,HDT.out.2.1,HDT.out.2.2⟩
    have hll:=EI hM
    clear PU hM T4
    go_wp2_with fail
    refine(C4.out).mono ?_
    rintro e w5 ⟨v5,rfl,o5,q5⟩
    have K5:=AC (K4.out.on q5)
    have N5:=AC (N4.out.on q5)
    have T5:=AC (o5.vers OL)
    obtain⟨A5,c5,rfl⟩:=Ae o5
    clear C4 K4 N4 q5 o5 k0 k1 k2 k3 k4 OL
    rcases hj with⟨h0,rfl,rfl,rfl⟩ | ⟨h0,o,k',hW,hj⟩
    ·have h1:((e0:Int) != 0)=true:=by simpa using h0
     clear h0 T5 WI N5
     obtain⟨g1,g2,g3,g4,hbb,hvv⟩:=K5.out.1
     obtain⟨k0,k1,k2,k3,k4⟩:=AD hbb
     have VV:=AC hvv
     clear hbb hvv
     have RB:=K5.out.2.1
     have RQ:=K5.out.2.2
     obtain⟨z1,z2,z3,z4,hbz,-⟩:=RB
     obtain⟨y0,y1,y2,y3,y4⟩:=AD hbz
     obtain⟨f0,f1,f2,f3,f4⟩:=AF hbz
     have RX:=AC hbz
     have RV:=AC VV.out
     have RQQ:=AC RQ
     clear RQ hbz
     go_wp2
     (try simp only [Exit.inBlock,Exit.then])
     obtain⟨wC,hwC⟩:∃ wC,wC=(((((w5.setCell ⟨w.heap.size+1,0,none⟩ (.string b.name)).setCell ⟨w.heap.size+1,1,none⟩ (.int .i64 b.st)).setCell ⟨w.heap.size+1,2,none⟩ (.slice g1 b.L.length g2)).setCell ⟨w.heap.size+1,3,none⟩ (.slice g3 b.U.length g4)).setCell ⟨w.heap.size+1,4,none⟩ (.int .u64 (b.last:Nat))):=⟨_,rfl⟩
     have gk:Kp (w.heap.size+1) w5 wC:=by rw [hwC];exact(((((Kp.of (Q.refl _)).set 0 _).set 1 _).set 2 _).set 3 _).set 4 _
     have bD:Bx wC (w.heap.size+1) 26 (bcl b (.slice g1 (b.L.length) g2) (.slice g3 (b.U.length) g4)):=by rw [hwC];exact AM (b:=b) RX.out
     have vC:=RV.out.kp (AI RX.out) gk
     have qC:Q w wC:=gk.q RQQ.out (by omega)
     rw [← hwC]
     obtain⟨v0,v1,v2,v3,v4⟩:=AD bD
     refine bodyPost_ret (v:=.tuple #[.agg #[.string b.name,.int .i64 b.st,.slice g1 b.L.length g2,.slice g3 b.U.length g4,.int .u64 (b.last:Nat)],.int .u64 0,.int .i64 (e0:Nat)]) ?_ rfl ⟨_,_,_,_,rfl,vC,qC⟩
     simp [results,Tryz.results35,go_sem,v0,v1,v2,v3,v4]
    have h1:((e0:Int) != 0)=false:=by rw [h0];rfl
    obtain⟨g1,g2,g3,g4,hbb,hvv⟩:=N5.out
    obtain⟨k0,k1,k2,k3,k4⟩:=AD hbb
    have C6:=AC (WI.out _ _ _ _ _ _ _ _ HNX.out hW (by omega) hvv T5.out)
    clear hbb hvv hW h0 WI hll T5 N5
    go_wp2_with fail
    refine(C6.out).mono ?_
    rintro e w7 ⟨A7,c7,A8,c8,rfl,v7,q7⟩
    have K7:=AC (K5.out.on q7)
    clear C6 K5 q7 k0 k1 k2 k3 k4 h1
    have NB0:=BoxB.new v7
    have NV0:=v7.on ((Q.refl w7).alloc (.cells #[.string o.name,.int .i64 o.st,.slice A7 o.L.length c7,.slice A8 o.U.length c8,.int .u64 (o.last:Nat)] 26))
    have NX0:Hid (Bx (w7.alloc (.cells #[.string o.name,.int .i64 o.st,.slice A7 o.L.length c7,.slice A8 o.U.length c8,.int .u64 (o.last:Nat)] 26)) w7.heap.size 26 (bcl o (.slice A7 o.L.length c7) (.slice A8 o.U.length c8))):=AC (Bx.new _ _ _)
    have V8:=AC NV0
    have K8:=AC (K7.out.on ((Q.refl w7).alloc (.cells #[.string o.name,.int .i64 o.st,.slice A7 o.L.length c7,.slice A8 o.U.length c8,.int .u64 (o.last:Nat)] 26)))
    clear NB0 NV0 v7 K7
    go_upto_region 17 with fail
    obtain⟨w8,hw8⟩:∃ x,x=w7.alloc (.cells #[.string o.name,.int .i64 o.st,.slice A7 o.L.length c7,.slice A8 o.U.length c8,.int .u64 (o.last:Nat)] 26):=⟨_,rfl⟩
    obtain⟨p8,hp8⟩:∃ x,x=w7.heap.size:=⟨_,rfl⟩
    rw [← hw8] at NX0 V8 K8 ⊢
    rw [← hp8] at NX0 ⊢
    clear hw8 hp8
    rcases hj with⟨h0,rfl,rfl,rfl⟩ | ⟨h0,rfl,rfl,rfl⟩
    ·have h1:((k':Int) != 0)=true:=by simpa using h0
     clear h0 V8 NX0
     obtain⟨g1,g2,g3,g4,hbb,hvv⟩:=K8.out.1
     obtain⟨k0,k1,k2,k3,k4⟩:=AD hbb
     have VV:=AC hvv
     clear hbb hvv
     have RB:=K8.out.2.1
     have RQ:=K8.out.2.2
     obtain⟨z1,z2,z3,z4,hbz,-⟩:=RB
     obtain⟨y0,y1,y2,y3,y4⟩:=AD hbz
     obtain⟨f0,f1,f2,f3,f4⟩:=AF hbz
     have RX:=AC hbz
     have RV:=AC VV.out
     have RQQ:=AC RQ
     clear RQ hbz
     go_wp2
     (try simp only [Exit.inBlock,Exit.then])
     obtain⟨wC,hwC⟩:∃ wC,wC=(((((w8.setCell ⟨w.heap.size+1,0,none⟩ (.string b.name)).setCell ⟨w.heap.size+1,1,none⟩ (.int .i64 b.st)).setCell ⟨w.heap.size+1,2,none⟩ (.slice g1 b.L.length g2)).setCell ⟨w.heap.size+1,3,none⟩ (.slice g3 b.U.length g4)).setCell ⟨w.heap.size+1,4,none⟩ (.int .u64 (b.last:Nat))):=⟨_,rfl⟩
     have gk:Kp (w.heap.size+1) w8 wC:=by rw [hwC];exact(((((Kp.of (Q.refl _)).set 0 _).set 1 _).set 2 _).set 3 _).set 4 _
     have bD:Bx wC (w.heap.size+1) 26 (bcl b (.slice g1 (b.L.length) g2) (.slice g3 (b.U.length) g4)):=by rw [hwC];exact AM (b:=b) RX.out
     have vC:=RV.out.kp (AI RX.out) gk
     have qC:Q w wC:=gk.q RQQ.out (by omega)
     rw [← hwC]
     obtain⟨v0,v1,v2,v3,v4⟩:=AD bD
     refine bodyPost_ret (v:=.tuple #[.agg #[.string b.name,.int .i64 b.st,.slice g1 b.L.length g2,.slice g3 b.U.length g4,.int .u64 (b.last:Nat)],.int .u64 0,.int .i64 (k':Nat)]) ?_ rfl ⟨_,_,_,_,rfl,vC,qC⟩
     simp [results,Tryz.results35,go_sem,v0,v1,v2,v3,v4]
    ·have h1:((k':Int) != 0)=false:=by rw [h0];rfl
     clear h0
     obtain⟨k0,k1,k2,k3,k4⟩:=AD NX0.out
     have RB:=K8.out.2.1
     have RQ:=K8.out.2.2
     obtain⟨z1,z2,z3,z4,hbz,-⟩:=RB
     obtain⟨y0,y1,y2,y3,y4⟩:=AD hbz
     obtain⟨f0,f1,f2,f3,f4⟩:=AF hbz
     have RX:=AC hbz
     have RV:=AC V8.out
     have RQQ:=AC RQ
     clear RQ hbz
     go_wp2
     (try simp only [Exit.inBlock,Exit.then])
     obtain⟨wC,hwC⟩:∃ wC,wC=(((((w8.setCell ⟨w.heap.size+1,0,none⟩ (.string o.name)).setCell ⟨w.heap.size+1,1,none⟩ (.int .i64 o.st)).setCell ⟨w.heap.size+1,2,none⟩ (.slice A7 o.L.length c7)).setCell ⟨w.heap.size+1,3,none⟩ (.slice A8 o.U.length c8)).setCell ⟨w.heap.size+1,4,none⟩ (.int .u64 (o.last:Nat))):=⟨_,rfl⟩
     have gk:Kp (w.heap.size+1) w8 wC:=by rw [hwC];exact(((((Kp.of (Q.refl _)).set 0 _).set 1 _).set 2 _).set 3 _).set 4 _
     have bD:Bx wC (w.heap.size+1) 26 (bcl o (.slice A7 (o.L.length) c7) (.slice A8 (o.U.length) c8)):=by rw [hwC];exact AM (b:=o) RX.out
     have vC:=RV.out.kp (AI RX.out) gk
     have qC:Q w wC:=gk.q RQQ.out (by omega)
     rw [← hwC]
     obtain⟨v0,v1,v2,v3,v4⟩:=AD bD
     refine bodyPost_ret (v:=.tuple #[.agg #[.string o.name,.int .i64 o.st,.slice A7 o.L.length c7,.slice A8 o.U.length c8,.int .u64 (o.last:Nat)],.int .u64 (n:Nat),.int .i64 0]) ?_ rfl ⟨_,_,_,_,rfl,vC,qC⟩
     simp [results,Tryz.results35,go_sem,v0,v1,v2,v3,v4]
theorem KR(b:Bkt)(lv uv:Value)(w:World)(key:ByteArray)(tm:Int)(d:Bkt)(n t:Nat)(s:ByteArray)(k:Nat)(hF:BC b (N2 b key tm) d n t s k)(hn:b.name.size≤1000)(hs:smE b.L)(hu:smL b.U)(hk:key.size≤1000)(tl : -9223372036854775808≤tm)(tu:tm≤9223372036854775807)(hv:BktV w b lv uv):
  Calls Tryz.prog 35 #[bkt b lv uv,.string key,.string ⟨#[]⟩,.bool true,.int .i64 tm] w fun e w'=>∃ A c A' c',e=.returned (.tuple #[bkt d (.slice A d.L.length c) (.slice A' d.U.length c'),.int .u64 (n:Nat),.int .i64 (k:Nat)])∧BktV w' d (.slice A d.L.length c) (.slice A' d.U.length c')∧Q w w':=by
 obtain⟨A1,c1,rfl⟩:=hv.1.form
 obtain⟨A2,c2,rfl⟩:=hv.2.form
 have K0:Hid (Two2 w ((w.alloc (.cells (bcl b (.slice A1 b.L.length c1) (.slice A2 b.U.length c2)) 26)).alloc (.cells #[.string ⟨#[]⟩,.int .i64 0,.slice none 0 0,.slice none 0 0,.int .u64 0] 26)) b):=AC (B5 hv)
 obtain⟨x0,hx0⟩:∃ z,z=((w.alloc (.cells (bcl b (.slice A1 b.L.length c1) (.slice A2 b.U.length c2)) 26)).alloc (.cells #[.string ⟨#[]⟩,.int .i64 0,.slice none 0 0,.slice none 0 0,.int .u64 0] 26)):=⟨_,rfl⟩
 rw [← hx0] at K0
 have OKV:=AC (CX key hv.1.okVs)
 have HDT:Hid ((⟨#[]⟩:ByteArray).size≤maxLen∧-9223372036854775808≤tm∧tm≤9223372036854775807):=AC ⟨by show(0:Nat)≤_;omega,tl,tu⟩
 have GE:=AC fun x v (hx:Ents x x.heap.size v b.L)=>Ei b.L key v x hs.1 hx
 have PU:=AC fun x v (m:Nat) l e (hm:m<18446744073709551616) (h:PutC (BY b.L key) b.st ⟨m,(⟨#[]⟩:ByteArray),false,tm⟩ l e) (hx:Vers x x.heap.size v (BY b.L key))=>EG (BY b.L key) v b.st ⟨m,(⟨#[]⟩:ByteArray),false,tm⟩ x l e h (CB _ _ hs.2) ⟨hm,by show(0:Nat)≤_;omega,tl,tu⟩ hx
 have DE:=AC fun x v (m:Nat) l e (hm:m<18446744073709551616) (h:J1 (BY b.L key) b.st m tm l e) (hx:Vers x x.heap.size v (BY b.L key))=>IY (BY b.L key) v b.st m tm x l e h (CB _ _ hs.2) hm tl tu hx
 have WI:=AC fun x (nx:Bkt) lv uv l vl o (k':Nat) (hn:nx.L=b.L∧nx.U=b.U) (h:JB nx key l o k') (hl:l.length≤1000) (hx:BktV x nx lv uv) (hc:Vers x x.heap.size vl l)=>Eb nx lv uv x key l vl o k' h (by rw [hn.1];exact hs) (by rw [hn.2];exact hu) hk hl hx hc
 simp only [bkt,ver] at WI PU
 have KY:=AC fun x=>Bn key x hk
 obtain⟨R,hR⟩:=Bw (okB b)
 have RM:=AC fun x lv uv (hx:BktV x b lv uv)=>BU b lv uv x R hR hn hs hu hx
 simp only [bkt] at RM
 have HRR:=AC hR
 clear hR
 have HF:=AC hF
 clear hF hn hs hu hv hk tl tu
 rw [bkt]
 go_enter Tryz.func35,Tryz.ntmps35
 simp only [bcl] at hx0
 go_upto_region 1 with fail
 rw [← hx0]
 clear hx0
 obtain⟨g1,g2,g3,g4,hbb,hvv⟩:=K0.out.1
 obtain⟨k0,k1,k2,k3,k4⟩:=AD hbb
 have C1:=AC (RM.out _ _ _ hvv)
 clear hbb hvv RM
 go_wp2_with fail
 refine(C1.out).mono ?_
 rintro e w1 ⟨rfl,q1⟩
 have K1:=AC (K0.out.on q1)
 clear C1 k0 k1 k2 k3 k4 K0 q1
 cases R with
 | false=>
   have hnb:¬ okB b:=by rcases HRR.out with⟨h,-⟩ | ⟨-,h⟩;exact absurd h (by decide);exact h
   obtain⟨rfl,rfl,rfl,rfl,rfl⟩:=Dy HF.out hnb
   clear hnb HRR HF GE PU WI KY DE
   obtain⟨g1,g2,g3,g4,hbb,hvv⟩:=K1.out.1
   obtain⟨k0,k1,k2,k3,k4⟩:=AD hbb
   have VV:=AC hvv
   clear hbb hvv
   have RB:=K1.out.2.1
   have RQ:=K1.out.2.2
   obtain⟨z1,z2,z3,z4,hbz,-⟩:=RB
   obtain⟨y0,y1,y2,y3,y4⟩:=AD hbz
   obtain⟨f0,f1,f2,f3,f4⟩:=AF hbz
   have RX:=AC hbz
   have RV:=AC VV.out
   have RQQ:=AC RQ
   clear RQ hbz
   go_wp2
   (try simp only [Exit.inBlock,Exit.then])
   obtain⟨wC,hwC⟩:∃ wC,wC=(((((w1.setCell ⟨w.heap.size+1,0,none⟩ (.string b.name)).setCell ⟨w.heap.size+1,1,none⟩ (.int .i64 b.st)).setCell ⟨w.heap.size+1,2,none⟩ (.slice g1 b.L.length g2)).setCell ⟨w.heap.size+1,3,none⟩ (.slice g3 b.U.length g4)).setCell ⟨w.heap.size+1,4,none⟩ (.int .u64 (b.last:Nat))):=⟨_,rfl⟩
   have gk:Kp (w.heap.size+1) w1 wC:=by rw [hwC];exact(((((Kp.of (Q.refl _)).set 0 _).set 1 _).set 2 _).set 3 _).set 4 _
   have bD:Bx wC (w.heap.size+1) 26 (bcl b (.slice g1 (b.L.length) g2) (.slice g3 (b.U.length) g4)):=by rw [hwC];exact AM (b:=b) RX.out
   have vC:=RV.out.kp (AI RX.out) gk
   have qC:Q w wC:=gk.q RQQ.out (by omega)
   rw [← hwC]
   obtain⟨v0,v1,v2,v3,v4⟩:=AD bD
   refine bodyPost_ret (v:=.tuple #[.agg #[.string b.name,.int .i64 b.st,.slice g1 b.L.length g2,.slice g3 b.U.length g4,.int .u64 (b.last:Nat)],.int .u64 0,.int .i64 1]) ?_ rfl ⟨_,_,_,_,rfl,vC,qC⟩
   simp [results,Tryz.results35,go_sem,v0,v1,v2,v3,v4]
 | true=>
   have hyb:okB b:=by rcases HRR.out with⟨-,h⟩ | ⟨h,-⟩;exact h;exact absurd h (by decide)
   rcases JX (M:=fun m=>J1 (BY b.L key) b.st m tm) HF.out hyb (fun d n t s k h=>⟨h.2.1,h.2.2,by obtain⟨b1,m1,k1,hg,hr⟩:=h.1;have e:=DZ hg;rw [e.1,e.2.2.1] at hr;exact⟨b1,m1,k1,hg,hr⟩⟩) with⟨hk0,rfl,rfl,rfl⟩ | ⟨hk0,hst,hla,rfl,rfl,rfl⟩ | ⟨hk0,nx,m,hnm,l,e0,hM,hj⟩
   ·rw [hk0] at KY
    clear HF HRR hyb hk0 WI
    go_wp2_with fail
    refine(KY.out _).mono ?_
    rintro e w2 ⟨rfl,rfl⟩
    clear KY GE PU DE
    obtain⟨g1,g2,g3,g4,hbb,hvv⟩:=K1.out.1
    obtain⟨k0,k1,k2,k3,k4⟩:=AD hbb
    have VV:=AC hvv
    clear hbb hvv
    have RB:=K1.out.2.1
    have RQ:=K1.out.2.2
    obtain⟨z1,z2,z3,z4,hbz,-⟩:=RB
    obtain⟨y0,y1,y2,y3,y4⟩:=AD hbz
    obtain⟨f0,f1,f2,f3,f4⟩:=AF hbz
    have RX:=AC hbz
    have RV:=AC VV.out
    have RQQ:=AC RQ
    clear RQ hbz
    go_wp2
    (try simp only [Exit.inBlock,Exit.then])
    obtain⟨wC,hwC⟩:∃ wC,wC=(((((w1.setCell ⟨w.heap.size+1,0,none⟩ (.string b.name)).setCell ⟨w.heap.size+1,1,none⟩ (.int .i64 b.st)).setCell ⟨w.heap.size+1,2,none⟩ (.slice g1 b.L.length g2)).setCell ⟨w.heap.size+1,3,none⟩ (.slice g3 b.U.length g4)).setCell ⟨w.heap.size+1,4,none⟩ (.int .u64 (b.last:Nat))):=⟨_,rfl⟩
    have gk:Kp (w.heap.size+1) w1 wC:=by rw [hwC];exact(((((Kp.of (Q.refl _)).set 0 _).set 1 _).set 2 _).set 3 _).set 4 _
    have bD:Bx wC (w.heap.size+1) 26 (bcl b (.slice g1 (b.L.length) g2) (.slice g3 (b.U.length) g4)):=by rw [hwC];exact AM (b:=b) RX.out
    have vC:=RV.out.kp (AI RX.out) gk
    have qC:Q w wC:=gk.q RQQ.out (by omega)
    rw [← hwC]
    obtain⟨v0,v1,v2,v3,v4⟩:=AD bD
    refine bodyPost_ret (v:=.tuple #[.agg #[.string b.name,.int .i64 b.st,.slice g1 b.L.length g2,.slice g3 b.U.length g4,.int .u64 (b.last:Nat)],.int .u64 0,.int .i64 1]) ?_ rfl ⟨_,_,_,_,rfl,vC,qC⟩
    simp [results,Tryz.results35,go_sem,v0,v1,v2,v3,v4]
   ·rw [hk0] at KY
    have h9:(b.st==1)=true:=by rw [hst];rfl
    have h7:(281474976710655:Int)≤(b.last:Int):=by omega
    clear HF HRR hyb hk0 WI hst hla GE PU DE
    go_wp2_with fail
    refine(KY.out _).mono ?_
    rintro e w2 ⟨rfl,rfl⟩
    obtain⟨g1,g2,g3,g4,hbb,hvv⟩:=K1.out.1
    obtain⟨k0,k1,k2,k3,k4⟩:=AD hbb
    have NX:=AC (BoxB.new hvv)
    have K2:=AC (K1.out.on ((Q.refl w1).alloc (.cells #[.string b.name,.int .i64 b.st,.slice g1 b.L.length g2,.slice g3 b.U.length g4,.int .u64 (b.last:Nat)] 26)))
    have LT:Hid (w.heap.size+1<w1.heap.size):=AC K1.out.2.1.lt
    clear hbb hvv KY K1
    go_upto_region 4 with fail
    clear k0 k1 k2 k3 k4
    obtain⟨w2,hw2⟩:∃ x,x=(w1.alloc (.cells #[.string b.name,.int .i64 b.st,.slice g1 b.L.length g2,.slice g3 b.U.length g4,.int .u64 (b.last:Nat)] 26)):=⟨_,rfl⟩
    obtain⟨p2,hp2⟩:∃ x,x=w1.heap.size:=⟨_,rfl⟩
    rw [← hw2] at NX K2 ⊢
    rw [← hp2] at NX LT ⊢
    clear hw2 hp2
    obtain⟨g1,g2,g3,g4,hbb,-⟩:=K2.out.1
    obtain⟨k0,k1,k2,k3,k4⟩:=AD hbb
    clear hbb
    go_upto_region 7 with fail
    clear k0 k1 k2 k3 k4 h9 h7
    obtain⟨g1,g2,g3,g4,hbb,hvv⟩:=K2.out.1
    obtain⟨k0,k1,k2,k3,k4⟩:=AD hbb
    have VV:=AC hvv
    clear hbb hvv
    have RB:=K2.out.2.1
    have RQ:=K2.out.2.2
    obtain⟨z1,z2,z3,z4,hbz,-⟩:=RB
    obtain⟨y0,y1,y2,y3,y4⟩:=AD hbz
    obtain⟨f0,f1,f2,f3,f4⟩:=AF hbz
    have RX:=AC hbz
    have RV:=AC VV.out
    have RQQ:=AC RQ
    clear RQ hbz
    go_wp2
    (try simp only [Exit.inBlock,Exit.then])
    obtain⟨wC,hwC⟩:∃ wC,wC=(((((w2.setCell ⟨w.heap.size+1,0,none⟩ (.string b.name)).setCell ⟨w.heap.size+1,1,none⟩ (.int .i64 b.st)).setCell ⟨w.heap.size+1,2,none⟩ (.slice g1 b.L.length g2)).setCell ⟨w.heap.size+1,3,none⟩ (.slice g3 b.U.length g4)).setCell ⟨w.heap.size+1,4,none⟩ (.int .u64 (b.last:Nat))):=⟨_,rfl⟩
    have gk:Kp (w.heap.size+1) w2 wC:=by rw [hwC];exact(((((Kp.of (Q.refl _)).set 0 _).set 1 _).set 2 _).set 3 _).set 4 _
    have bD:Bx wC (w.heap.size+1) 26 (bcl b (.slice g1 (b.L.length) g2) (.slice g3 (b.U.length) g4)):=by rw [hwC];exact AM (b:=b) RX.out
    have vC:=RV.out.kp (AI RX.out) gk
    have qC:Q w wC:=gk.q RQQ.out (by omega)
    rw [← hwC]
    obtain⟨v0,v1,v2,v3,v4⟩:=AD bD
    refine bodyPost_ret (v:=.tuple #[.agg #[.string b.name,.int .i64 b.st,.slice g1 b.L.length g2,.slice g3 b.U.length g4,.int .u64 (b.last:Nat)],.int .u64 0,.int .i64 6]) ?_ rfl ⟨_,_,_,_,rfl,vC,qC⟩
    simp [results,Tryz.results35,go_sem,v0,v1,v2,v3,v4]
   rw [hk0] at KY
   have hbl:=hyb.2.2.1
   clear HF HRR hyb hk0
   go_wp2_with fail
   refine(KY.out _).mono ?_
   rintro e w2 ⟨rfl,rfl⟩
   obtain⟨g1,g2,g3,g4,hbb,hvv⟩:=K1.out.1
   obtain⟨k0,k1,k2,k3,k4⟩:=AD hbb
   have NX:=AC (BoxB.new hvv)
   have K2:=AC (K1.out.on ((Q.refl w1).alloc (.cells #[.string b.name,.int .i64 b.st,.slice g1 b.L.length g2,.slice g3 b.U.length g4,.int .u64 (b.last:Nat)] 26)))
   have LT:Hid (w.heap.size+1<w1.heap.size):=AC K1.out.2.1.lt
   clear hbb hvv KY K1
   go_upto_region 4 with fail
   clear k0 k1 k2 k3 k4
   obtain⟨w2,hw2⟩:∃ x,x=(w1.alloc (.cells #[.string b.name,.int .i64 b.st,.slice g1 b.L.length g2,.slice g3 b.U.length g4,.int .u64 (b.last:Nat)] 26)):=⟨_,rfl⟩
   obtain⟨p2,hp2⟩:∃ x,x=w1.heap.size:=⟨_,rfl⟩
   rw [← hw2] at NX K2 ⊢
   rw [← hp2] at NX LT ⊢
   clear hw2 hp2
   obtain⟨g1,g2,g3,g4,hbb,-⟩:=K2.out.1
   obtain⟨k0,k1,k2,k3,k4⟩:=AD hbb
   clear hbb
   have hml:m<18446744073709551616:=by
    rcases hnm with⟨-,-,e⟩ | ⟨-,-,-,e⟩ <;> omega
   rcases hnm with⟨hst,e1,e2⟩ | ⟨hst,hla,e1,e2⟩
   ·have h9:(b.st==1)=false:=by simpa using hst
    have HNX:Hid (nx.L=b.L∧nx.U=b.U):=AC (by rw [e1];exact⟨rfl,rfl⟩)
    have NX2:Hid (BoxB w2 p2 nx):=AC (by rw [e1];exact NX.out)
    subst e2
    clear e1 hst hbl NX LT
    go_upto_region 10 with fail
    clear k0 k1 k2 k3 k4 h9
    have KN:=K2
    have NX:=NX2
    clear K2 NX2
    obtain⟨g1,g2,g3,g4,hbb,hvv⟩:=KN.out.1
    obtain⟨k0,k1,k2,k3,k4⟩:=AD hbb
    have C:=AC (GE.out _ _ hvv.1)
    clear hbb hvv GE
    go_wp2_with fail
    refine(C.out).mono ?_
    rintro e w4 ⟨v4,rfl,t4,q4⟩
    have K4:=AC (KN.out.on q4)
    have N4:=AC (NX.out.on q4)
    clear C k0 k1 k2 k3 k4 KN NX
    have T4:=AC t4
    obtain⟨g1,g2,g3,g4,hbb,hvv⟩:=K4.out.1
    obtain⟨k0,k1,k2,k3,k4⟩:=AD hbb
    clear hbb hvv t4 q4
    obtain⟨L0,c0,hM0⟩:=GM (BY b.L key) b.st ⟨0,⟨#[]⟩,false,tm⟩
    have C4:=AC (PU.out _ _ 0 _ _ hml hM0 T4.out)
    clear PU hM0
    go_wp2_with fail
    refine(C4.out).mono ?_
    rintro e w6 ⟨v6,rfl,o6,q6⟩
    have K6:=AC (K4.out.on q6)
    have N6:=AC (N4.out.on q6)
    have T6:=AC (T4.out.on q6)
    clear C4 K4 N4 T4 q6 o6 k0 k1 k2 k3 k4
    obtain⟨g1,g2,g3,g4,hbb,hvv⟩:=K6.out.1
    obtain⟨k0,k1,k2,k3,k4⟩:=AD hbb
    have C5:=AC (DE.out _ _ 0 _ _ hml hM T6.out)
    have OL:=Gf hM OKV.out hml HDT.out.2.1 HDT.out.2.2
    have hll:=Gg hM
    clear DE hM T6 hbb hvv
    go_wp2_with fail
    refine(C5.out).mono ?_
    rintro e w5 ⟨v5,rfl,o5,q5⟩
    have K5:=AC (K6.out.on q5)
    have N5:=AC (N6.out.on q5)
    have T5:=AC (o5.vers OL)
    obtain⟨A5,c5,rfl⟩:=Ae o5
    clear C5 K6 N6 q5 o5 k0 k1 k2 k3 k4 OL
    rcases hj with⟨h0,rfl,rfl,rfl⟩ | ⟨h0,o,k',hW,hj⟩
    ·have h1:((e0:Int) != 0)=true:=by simpa using h0
     clear h0 T5 WI N5
     obtain⟨g1,g2,g3,g4,hbb,hvv⟩:=K5.out.1
     obtain⟨k0,k1,k2,k3,k4⟩:=AD hbb
     have VV:=AC hvv
     clear hbb hvv
     have RB:=K5.out.2.1
     have RQ:=K5.out.2.2
     obtain⟨z1,z2,z3,z4,hbz,-⟩:=RB
     obtain⟨y0,y1,y2,y3,y4⟩:=AD hbz
     obtain⟨f0,f1,f2,f3,f4⟩:=AF hbz
     have RX:=AC hbz
     have RV:=AC VV.out
     have RQQ:=AC RQ
     clear RQ hbz
     go_wp2
     (try simp only [Exit.inBlock,Exit.then])
     obtain⟨wC,hwC⟩:∃ wC,wC=(((((w5.setCell ⟨w.heap.size+1,0,none⟩ (.string b.name)).setCell ⟨w.heap.size+1,1,none⟩ (.int .i64 b.st)).setCell ⟨w.heap.size+1,2,none⟩ (.slice g1 b.L.length g2)).setCell ⟨w.heap.size+1,3,none⟩ (.slice g3 b.U.length g4)).setCell ⟨w.heap.size+1,4,none⟩ (.int .u64 (b.last:Nat))):=⟨_,rfl⟩
     have gk:Kp (w.heap.size+1) w5 wC:=by rw [hwC];exact(((((Kp.of (Q.refl _)).set 0 _).set 1 _).set 2 _).set 3 _).set 4 _
     have bD:Bx wC (w.heap.size+1) 26 (bcl b (.slice g1 (b.L.length) g2) (.slice g3 (b.U.length) g4)):=by rw [hwC];exact AM (b:=b) RX.out
     have vC:=RV.out.kp (AI RX.out) gk
     have qC:Q w wC:=gk.q RQQ.out (by omega)
     rw [← hwC]
     obtain⟨v0,v1,v2,v3,v4⟩:=AD bD
     refine bodyPost_ret (v:=.tuple #[.agg #[.string b.name,.int .i64 b.st,.slice g1 b.L.length g2,.slice g3 b.U.length g4,.int .u64 (b.last:Nat)],.int .u64 0,.int .i64 (e0:Nat)]) ?_ rfl ⟨_,_,_,_,rfl,vC,qC⟩
     simp [results,Tryz.results35,go_sem,v0,v1,v2,v3,v4]
    have h1:((e0:Int) != 0)=false:=by rw [h0];rfl
    obtain⟨g1,g2,g3,g4,hbb,hvv⟩:=N5.out
    obtain⟨k0,k1,k2,k3,k4⟩:=AD hbb
    have C6:=AC (WI.out _ _ _ _ _ _ _ _ HNX.out hW (by omega) hvv T5.out)
    clear hbb hvv hW h0 WI hll T5 N5
    go_wp2_with fail
    refine(C6.out).mono ?_
    rintro e w7 ⟨A7,c7,A8,c8,rfl,v7,q7⟩
    have K7:=AC (K5.out.on q7)
    clear C6 K5 q7 k0 k1 k2 k3 k4 h1
    have NB0:=BoxB.new v7
    have NV0:=v7.on ((Q.refl w7).alloc (.cells #[.string o.name,.int .i64 o.st,.slice A7 o.L.length c7,.slice A8 o.U.length c8,.int .u64 (o.last:Nat)] 26))
    have NX0:Hid (Bx (w7.alloc (.cells #[.string o.name,.int .i64 o.st,.slice A7 o.L.length c7,.slice A8 o.U.length c8,.int .u64 (o.last:Nat)] 26)) w7.heap.size 26 (bcl o (.slice A7 o.L.length c7) (.slice A8 o.U.length c8))):=AC (Bx.new _ _ _)
    have V8:=AC NV0
    have K8:=AC (K7.out.on ((Q.refl w7).alloc (.cells #[.string o.name,.int .i64 o.st,.slice A7 o.L.length c7,.slice A8 o.U.length c8,.int .u64 (o.last:Nat)] 26)))
    clear NB0 NV0 v7 K7
    go_upto_region 17 with fail
    obtain⟨w8,hw8⟩:∃ x,x=w7.alloc (.cells #[.string o.name,.int .i64 o.st,.slice A7 o.L.length c7,.slice A8 o.U.length c8,.int .u64 (o.last:Nat)] 26):=⟨_,rfl⟩
    obtain⟨p8,hp8⟩:∃ x,x=w7.heap.size:=⟨_,rfl⟩
    rw [← hw8] at NX0 V8 K8 ⊢
    rw [← hp8] at NX0 ⊢
    clear hw8 hp8
    rcases hj with⟨h0,rfl,rfl,rfl⟩ | ⟨h0,rfl,rfl,rfl⟩
    ·have h1:((k':Int) != 0)=true:=by simpa using h0
     clear h0 V8 NX0
     obtain⟨g1,g2,g3,g4,hbb,hvv⟩:=K8.out.1
     obtain⟨k0,k1,k2,k3,k4⟩:=AD hbb
     have VV:=AC hvv
     clear hbb hvv
     have RB:=K8.out.2.1
     have RQ:=K8.out.2.2
     obtain⟨z1,z2,z3,z4,hbz,-⟩:=RB
     obtain⟨y0,y1,y2,y3,y4⟩:=AD hbz
     obtain⟨f0,f1,f2,f3,f4⟩:=AF hbz
     have RX:=AC hbz
     have RV:=AC VV.out
     have RQQ:=AC RQ
     clear RQ hbz
     go_wp2
     (try simp only [Exit.inBlock,Exit.then])
     obtain⟨wC,hwC⟩:∃ wC,wC=(((((w8.setCell ⟨w.heap.size+1,0,none⟩ (.string b.name)).setCell ⟨w.heap.size+1,1,none⟩ (.int .i64 b.st)).setCell ⟨w.heap.size+1,2,none⟩ (.slice g1 b.L.length g2)).setCell ⟨w.heap.size+1,3,none⟩ (.slice g3 b.U.length g4)).setCell ⟨w.heap.size+1,4,none⟩ (.int .u64 (b.last:Nat))):=⟨_,rfl⟩
     have gk:Kp (w.heap.size+1) w8 wC:=by rw [hwC];exact(((((Kp.of (Q.refl _)).set 0 _).set 1 _).set 2 _).set 3 _).set 4 _
     have bD:Bx wC (w.heap.size+1) 26 (bcl b (.slice g1 (b.L.length) g2) (.slice g3 (b.U.length) g4)):=by rw [hwC];exact AM (b:=b) RX.out
     have vC:=RV.out.kp (AI RX.out) gk
     have qC:Q w wC:=gk.q RQQ.out (by omega)
     rw [← hwC]
     obtain⟨v0,v1,v2,v3,v4⟩:=AD bD
     refine bodyPost_ret (v:=.tuple #[.agg #[.string b.name,.int .i64 b.st,.slice g1 b.L.length g2,.slice g3 b.U.length g4,.int .u64 (b.last:Nat)],.int .u64 0,.int .i64 (k':Nat)]) ?_ rfl ⟨_,_,_,_,rfl,vC,qC⟩
     simp [results,Tryz.results35,go_sem,v0,v1,v2,v3,v4]
    ·have h1:((k':Int) != 0)=false:=by rw [h0];rfl
     clear h0
     obtain⟨k0,k1,k2,k3,k4⟩:=AD NX0.out
     have RB:=K8.out.2.1
     have RQ:=K8.out.2.2
     obtain⟨z1,z2,z3,z4,hbz,-⟩:=RB
     obtain⟨y0,y1,y2,y3,y4⟩:=AD hbz
     obtain⟨f0,f1,f2,f3,f4⟩:=AF hbz
     have RX:=AC hbz
     have RV:=AC V8.out
     have RQQ:=AC RQ
     clear RQ hbz
     go_wp2
     (try simp only [Exit.inBlock,Exit.then])
     obtain⟨wC,hwC⟩:∃ wC,wC=(((((w8.setCell ⟨w.heap.size+1,0,none⟩ (.string o.name)).setCell ⟨w.heap.size+1,1,none⟩ (.int .i64 o.st)).setCell ⟨w.heap.size+1,2,none⟩ (.slice A7 o.L.length c7)).setCell ⟨w.heap.size+1,3,none⟩ (.slice A8 o.U.length c8)).setCell ⟨w.heap.size+1,4,none⟩ (.int .u64 (o.last:Nat))):=⟨_,rfl⟩
     have gk:Kp (w.heap.size+1) w8 wC:=by rw [hwC];exact(((((Kp.of (Q.refl _)).set 0 _).set 1 _).set 2 _).set 3 _).set 4 _
     have bD:Bx wC (w.heap.size+1) 26 (bcl o (.slice A7 (o.L.length) c7) (.slice A8 (o.U.length) c8)):=by rw [hwC];exact AM (b:=o) RX.out
     have vC:=RV.out.kp (AI RX.out) gk
     have qC:Q w wC:=gk.q RQQ.out (by omega)
     rw [← hwC]
     obtain⟨v0,v1,v2,v3,v4⟩:=AD bD
     refine bodyPost_ret (v:=.tuple #[.agg #[.string o.name,.int .i64 o.st,.slice A7 o.L.length c7,.slice A8 o.U.length c8,.int .u64 (o.last:Nat)],.int .u64 0,.int .i64 0]) ?_ rfl ⟨_,_,_,_,rfl,vC,qC⟩
     simp [results,Tryz.results35,go_sem,v0,v1,v2,v3,v4]
   ·have h9:(b.st==1)=true:=by rw [hst];rfl
    have h7:¬ (281474976710655:Int)≤(b.last:Int):=by omega
    have HNX:Hid (nx.L=b.L∧nx.U=b.U):=AC (by rw [e1];exact⟨rfl,rfl⟩)
    obtain⟨z1,z2,z3,z4,hb2,hv2⟩:=NX.out
    obtain⟨j0,j1,j2,j3,j4⟩:=AD hb2
    have fz:=hb2.frozen 4
    have gB:Kp p2 w2 (w2.setCell ⟨p2,4,none⟩ (.int .u64 (m:Nat))):=(Kp.of (Q.refl w2)).set 4 _
    have e9:(b.last:Int)+1=(m:Int):=by omega
    have nb:Bx (w2.setCell ⟨p2,4,none⟩ (.int .u64 (m:Nat))) p2 26 (bcl {b with last:=m} (.slice z1 b.L.length z2) (.slice z3 b.U.length z4)):=hb2.set 4 _
    have NX2:Hid (BoxB (w2.setCell ⟨p2,4,none⟩ (.int .u64 (m:Nat))) p2 nx):=AC (by rw [e1,← e2];exact⟨z1,z2,z3,z4,nb,hv2.kp (AI hb2) gB⟩)
    have KN:Hid (Two2 w (w2.setCell ⟨p2,4,none⟩ (.int .u64 (m:Nat))) b):=AC ⟨K2.out.1.kp (AI hb2) gB (by have:=LT.out;omega),K2.out.2.1.kp (AI hb2) gB (by have:=LT.out;omega),gB.q K2.out.2.2 (by have:=LT.out;omega)⟩
    have E9:=AC e9
    clear e1 e2 e9 hst hla hb2 hv2 gB nb NX K2 LT
    go_upto_region 10 with fail
    clear k0 k1 k2 k3 k4 h9 h7 j0 j1 j2 j3 j4 fz
    rw [E9.out]
    clear E9 hbl
    obtain⟨w3,hw3⟩:∃ x,x=w2.setCell ⟨p2,4,none⟩ (.int .u64 (m:Nat)):=⟨_,rfl⟩
    rw [← hw3] at NX2 KN ⊢
    clear hw3
    have NX:=NX2
    clear NX2
    obtain⟨g1,g2,g3,g4,hbb,hvv⟩:=KN.out.1
    obtain⟨k0,k1,k2,k3,k4⟩:=AD hbb
    have C:=AC (GE.out _ _ hvv.1)
    clear hbb hvv GE
    go_wp2_with fail
    refine(C.out).mono ?_
    rintro e w4 ⟨v4,rfl,t4,q4⟩
    have K4:=AC (KN.out.on q4)
    have N4:=AC (NX.out.on q4)
    clear C k0 k1 k2 k3 k4 KN NX
    have T4:=AC t4
    obtain⟨g1,g2,g3,g4,hbb,hvv⟩:=K4.out.1
    obtain⟨k0,k1,k2,k3,k4⟩:=AD hbb
    clear hbb hvv t4 q4
    obtain⟨L0,c0,hM0⟩:=GM (BY b.L key) b.st ⟨m,⟨#[]⟩,false,tm⟩
    have C4:=AC (PU.out _ _ m _ _ hml hM0 T4.out)
    clear PU hM0
    go_wp2_with fail
    refine(C4.out).mono ?_
    rintro e w6 ⟨v6,rfl,o6,q6⟩
    have K6:=AC (K4.out.on q6)
    have N6:=AC (N4.out.on q6)
    have T6:=AC (T4.out.on q6)
    clear C4 K4 N4 T4 q6 o6 k0 k1 k2 k3 k4
    obtain⟨g1,g2,g3,g4,hbb,hvv⟩:=K6.out.1
    obtain⟨k0,k1,k2,k3,k4⟩:=AD hbb
    have C5:=AC (DE.out _ _ m _ _ hml hM T6.out)
    have OL:=Gf hM OKV.out hml HDT.out.2.1 HDT.out.2.2
    have hll:=Gg hM
    clear DE hM T6 hbb hvv
    go_wp2_with fail
    refine(C5.out).mono ?_
    rintro e w5 ⟨v5,rfl,o5,q5⟩
    have K5:=AC (K6.out.on q5)
    have N5:=AC (N6.out.on q5)
    have T5:=AC (o5.vers OL)
    obtain⟨A5,c5,rfl⟩:=Ae o5
    clear C5 K6 N6 q5 o5 k0 k1 k2 k3 k4 OL
    rcases hj with⟨h0,rfl,rfl,rfl⟩ | ⟨h0,o,k',hW,hj⟩
    ·have h1:((e0:Int) != 0)=true:=by simpa using h0
     clear h0 T5 WI N5
     obtain⟨g1,g2,g3,g4,hbb,hvv⟩:=K5.out.1
     obtain⟨k0,k1,k2,k3,k4⟩:=AD hbb
     have VV:=AC hvv
     clear hbb hvv
     have RB:=K5.out.2.1
     have RQ:=K5.out.2.2
     obtain⟨z1,z2,z3,z4,hbz,-⟩:=RB
     obtain⟨y0,y1,y2,y3,y4⟩:=AD hbz
     obtain⟨f0,f1,f2,f3,f4⟩:=AF hbz
     have RX:=AC hbz
     have RV:=AC VV.out
     have RQQ:=AC RQ
     clear RQ hbz
     go_wp2
     (try simp only [Exit.inBlock,Exit.then])
     obtain⟨wC,hwC⟩:∃ wC,wC=(((((w5.setCell ⟨w.heap.size+1,0,none⟩ (.string b.name)).setCell ⟨w.heap.size+1,1,none⟩ (.int .i64 b.st)).setCell ⟨w.heap.size+1,2,none⟩ (.slice g1 b.L.length g2)).setCell ⟨w.heap.size+1,3,none⟩ (.slice g3 b.U.length g4)).setCell ⟨w.heap.size+1,4,none⟩ (.int .u64 (b.last:Nat))):=⟨_,rfl⟩
     have gk:Kp (w.heap.size+1) w5 wC:=by rw [hwC];exact(((((Kp.of (Q.refl _)).set 0 _).set 1 _).set 2 _).set 3 _).set 4 _
     have bD:Bx wC (w.heap.size+1) 26 (bcl b (.slice g1 (b.L.length) g2) (.slice g3 (b.U.length) g4)):=by rw [hwC];exact AM (b:=b) RX.out
     have vC:=RV.out.kp (AI RX.out) gk
     have qC:Q w wC:=gk.q RQQ.out (by omega)
     rw [← hwC]
     obtain⟨v0,v1,v2,v3,v4⟩:=AD bD
     refine bodyPost_ret (v:=.tuple #[.agg #[.string b.name,.int .i64 b.st,.slice g1 b.L.length g2,.slice g3 b.U.length g4,.int .u64 (b.last:Nat)],.int .u64 0,.int .i64 (e0:Nat)]) ?_ rfl ⟨_,_,_,_,rfl,vC,qC⟩
     simp [results,Tryz.results35,go_sem,v0,v1,v2,v3,v4]
    have h1:((e0:Int) != 0)=false:=by rw [h0];rfl
    obtain⟨g1,g2,g3,g4,hbb,hvv⟩:=N5.out
    obtain⟨k0,k1,k2,k3,k4⟩:=AD hbb
    have C6:=AC (WI.out _ _ _ _ _ _ _ _ HNX.out hW (by omega) hvv T5.out)
    clear hbb hvv hW h0 WI hll T5 N5
    go_wp2_with fail
    refine(C6.out).mono ?_
    rintro e w7 ⟨A7,c7,A8,c8,rfl,v7,q7⟩
    have K7:=AC (K5.out.on q7)
    clear C6 K5 q7 k0 k1 k2 k3 k4 h1
    have NB0:=BoxB.new v7
    have NV0:=v7.on ((Q.refl w7).alloc (.cells #[.string o.name,.int .i64 o.st,.slice A7 o.L.length c7,.slice A8 o.U.length c8,.int .u64 (o.last:Nat)] 26))
    have NX0:Hid (Bx (w7.alloc (.cells #[.string o.name,.int .i64 o.st,.slice A7 o.L.length c7,.slice A8 o.U.length c8,.int .u64 (o.last:Nat)] 26)) w7.heap.size 26 (bcl o (.slice A7 o.L.length c7) (.slice A8 o.U.length c8))):=AC (Bx.new _ _ _)
    have V8:=AC NV0
    have K8:=AC (K7.out.on ((Q.refl w7).alloc (.cells #[.string o.name,.int .i64 o.st,.slice A7 o.L.length c7,.slice A8 o.U.length c8,.int .u64 (o.last:Nat)] 26)))
    clear NB0 NV0 v7 K7
    go_upto_region 17 with fail
    obtain⟨w8,hw8⟩:∃ x,x=w7.alloc (.cells #[.string o.name,.int .i64 o.st,.slice A7 o.L.length c7,.slice A8 o.U.length c8,.int .u64 (o.last:Nat)] 26):=⟨_,rfl⟩
    obtain⟨p8,hp8⟩:∃ x,x=w7.heap.size:=⟨_,rfl⟩
    rw [← hw8] at NX0 V8 K8 ⊢
    rw [← hp8] at NX0 ⊢
    clear hw8 hp8
    rcases hj with⟨h0,rfl,rfl,rfl⟩ | ⟨h0,rfl,rfl,rfl⟩
    ·have h1:((k':Int) != 0)=true:=by simpa using h0
     clear h0 V8 NX0
     obtain⟨g1,g2,g3,g4,hbb,hvv⟩:=K8.out.1
     obtain⟨k0,k1,k2,k3,k4⟩:=AD hbb
     have VV:=AC hvv
     clear hbb hvv
     have RB:=K8.out.2.1
     have RQ:=K8.out.2.2
     obtain⟨z1,z2,z3,z4,hbz,-⟩:=RB
     obtain⟨y0,y1,y2,y3,y4⟩:=AD hbz
     obtain⟨f0,f1,f2,f3,f4⟩:=AF hbz
     have RX:=AC hbz
     have RV:=AC VV.out
     have RQQ:=AC RQ
     clear RQ hbz
     go_wp2
     (try simp only [Exit.inBlock,Exit.then])
     obtain⟨wC,hwC⟩:∃ wC,wC=(((((w8.setCell ⟨w.heap.size+1,0,none⟩ (.string b.name)).setCell ⟨w.heap.size+1,1,none⟩ (.int .i64 b.st)).setCell ⟨w.heap.size+1,2,none⟩ (.slice g1 b.L.length g2)).setCell ⟨w.heap.size+1,3,none⟩ (.slice g3 b.U.length g4)).setCell ⟨w.heap.size+1,4,none⟩ (.int .u64 (b.last:Nat))):=⟨_,rfl⟩
     have gk:Kp (w.heap.size+1) w8 wC:=by rw [hwC];exact(((((Kp.of (Q.refl _)).set 0 _).set 1 _).set 2 _).set 3 _).set 4 _
     have bD:Bx wC (w.heap.size+1) 26 (bcl b (.slice g1 (b.L.length) g2) (.slice g3 (b.U.length) g4)):=by rw [hwC];exact AM (b:=b) RX.out
     have vC:=RV.out.kp (AI RX.out) gk
     have qC:Q w wC:=gk.q RQQ.out (by omega)
     rw [← hwC]
     obtain⟨v0,v1,v2,v3,v4⟩:=AD bD
     refine bodyPost_ret (v:=.tuple #[.agg #[.string b.name,.int .i64 b.st,.slice g1 b.L.length g2,.slice g3 b.U.length g4,.int .u64 (b.last:Nat)],.int .u64 0,.int .i64 (k':Nat)]) ?_ rfl ⟨_,_,_,_,rfl,vC,qC⟩
     simp [results,Tryz.results35,go_sem,v0,v1,v2,v3,v4]
    ·have h1:((k':Int) != 0)=false:=by rw [h0];rfl
     clear h0
     obtain⟨k0,k1,k2,k3,k4⟩:=AD NX0.out
     have RB:=K8.out.2.1
     have RQ:=K8.out.2.2
     obtain⟨z1,z2,z3,z4,hbz,-⟩:=RB
     obtain⟨y0,y1,y2,y3,y4⟩:=AD hbz
     obtain⟨f0,f1,f2,f3,f4⟩:=AF hbz
     have RX:=AC hbz
     have RV:=AC V8.out
     have RQQ:=AC RQ
     clear RQ hbz
     go_wp2
     (try simp only [Exit.inBlock,Exit.then])
     obtain⟨wC,hwC⟩:∃ wC,wC=(((((w8.setCell ⟨w.heap.size+1,0,none⟩ (.string o.name)).setCell ⟨w.heap.size+1,1,none⟩ (.int .i64 o.st)).setCell ⟨w.heap.size+1,2,none⟩ (.slice A7 o.L.length c7)).setCell ⟨w.heap.size+1,3,none⟩ (.slice A8 o.U.length c8)).setCell ⟨w.heap.size+1,4,none⟩ (.int .u64 (o.last:Nat))):=⟨_,rfl⟩
     have gk:Kp (w.heap.size+1) w8 wC:=by rw [hwC];exact(((((Kp.of (Q.refl _)).set 0 _).set 1 _).set 2 _).set 3 _).set 4 _
     have bD:Bx wC (w.heap.size+1) 26 (bcl o (.slice A7 (o.L.length) c7) (.slice A8 (o.U.length) c8)):=by rw [hwC];exact AM (b:=o) RX.out
     have vC:=RV.out.kp (AI RX.out) gk
     have qC:Q w wC:=gk.q RQQ.out (by omega)
     rw [← hwC]
     obtain⟨v0,v1,v2,v3,v4⟩:=AD bD
     refine bodyPost_ret (v:=.tuple #[.agg #[.string o.name,.int .i64 o.st,.slice A7 o.L.length c7,.slice A8 o.U.length c8,.int .u64 (o.last:Nat)],.int .u64 (n:Nat),.int .i64 0]) ?_ rfl ⟨_,_,_,_,rfl,vC,qC⟩
     simp [results,Tryz.results35,go_sem,v0,v1,v2,v3,v4]
end
end Go.Proofs.YtjjlbbfhmpbneaaGreat
