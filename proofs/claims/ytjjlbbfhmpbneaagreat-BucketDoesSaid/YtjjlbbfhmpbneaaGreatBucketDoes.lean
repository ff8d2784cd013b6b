/-
  Proved: whatever bucket and act BucketDoes is called with, it returns true and leaves what it was given as it was. No condition.
-/
import Derived.Test.YtjjlbbfhmpbneaaGreatLz
import Derived.Test.YtjjlbbfhmpbneaaGreatLze
import Derived.Test.YtjjlbbfhmpbneaaGreatLza
import Derived.Test.YtjjlbbfhmpbneaaGreatLn
namespace Go.Proofs.YtjjlbbfhmpbneaaGreat.bucketDoes
open AllReadyH renaming cons → aC, nil → aN
open Lib renaming hid → AC
set_option maxHeartbeats 16000000
set_option maxRecDepth 100000
open Go.ChangeShapes Go.WideShapes Go.ChangeAt Go.RowKit Go.Shelf
open Go.ChangeMaps (open_string shut_string)
set_option linter.unusedVariables false
set_option linter.unusedSimpArgs false
def In2(w0 w:World)(b:Bkt)(x:Actn):Prop:=BoxB w w0.heap.size b∧BoxA w (w0.heap.size+1) x∧Q w0 w
theorem In2.on{w0 w w':World}{b:Bkt}{x:Actn}(h:In2 w0 w b x)(q:Q w w'):In2 w0 w' b x:=⟨h.1.on q,h.2.1.on q,h.2.2.trans q⟩
theorem In2.kp{w0 w w':World}{b:Bkt}{x:Actn}{p:Nat}(h:In2 w0 w b x)(c:Calm w p)(g:Kp p w w')(hp:w0.heap.size+1<p):In2 w0 w' b x:=
 ⟨h.1.kp c g (by omega),h.2.1.kp c g (by omega),g.q h.2.2 (by omega)⟩
def S2(w0 w:World)(pw:Nat)(b:Bkt)(x:Actn)(lv uv px lw uw:Value):Prop:=
 Bx w w0.heap.size 26 (bcl b lv uv)∧Bx w (w0.heap.size+1) 29 (acl x px)∧Bx w pw 26 (bcl b lw uw)∧Q w0 w∧w0.heap.size+1<pw
def C2(w:World)(b:Bkt)(x:Actn)(lv uv px lw uw:Value):Prop:=BktV w b lv uv∧Pces w w.heap.size px x.P∧BktV w b lw uw
section
variable {w0 w w':World} {pw r:Nat} {b:Bkt} {x:Actn} {lv uv px lw uw:Value}
theorem S2.on(h:S2 w0 w pw b x lv uv px lw uw)(q:Q w w'):S2 w0 w' pw b x lv uv px lw uw:=⟨h.1.on q,h.2.1.on q,h.2.2.1.on q,h.2.2.2.1.trans q,h.2.2.2.2⟩
theorem S2.kp(h:S2 w0 w pw b x lv uv px lw uw)(g:Kp r w w')(hp:w0.heap.size+2<r)(hn:pw≠r):S2 w0 w' pw b x lv uv px lw uw:=
 ⟨g.bx h.1 (by omega),g.bx h.2.1 (by omega),g.bx h.2.2.1 hn,g.q h.2.2.2.1 (by omega),h.2.2.2.2⟩
theorem S2.newD(h:S2 w0 w pw b x lv uv px lw uw):NewD w0 (w.alloc (.cells Bb 34)) w.heap.size:=⟨Bx.new _ _ _,by have:=h.2.2.1.lt;have:=h.2.2.2.2;omega⟩
theorem C2.on(h:C2 w b x lv uv px lw uw)(q:Q w w'):C2 w' b x lv uv px lw uw:=⟨h.1.on q,h.2.1.on q,h.2.2.on q⟩
theorem C2.kp(h:C2 w b x lv uv px lw uw)(c:Calm w r)(g:Kp r w w'):C2 w' b x lv uv px lw uw:=⟨h.1.kp c g,h.2.1.kp c g,h.2.2.kp c g⟩
end
def S4(w0 w:World)(pw:Nat)(b:Bkt)(x:Actn)(lv uv px lw uw:Value)(p7 p8:Nat)(c7 c8:Array Value):Prop:=
 S2 w0 w pw b x lv uv px lw uw∧Bx w p7 34 c7∧Bx w p8 34 c8
theorem S4.on{w0 w w':World}{pw p7 p8:Nat}{b:Bkt}{x:Actn}{lv uv px lw uw:Value}{c7 c8:Array Value}(h:S4 w0 w pw b x lv uv px lw uw p7 p8 c7 c8)(q:Q w w'):S4 w0 w' pw b x lv uv px lw uw p7 p8 c7 c8:=⟨h.1.on q,h.2.1.on q,h.2.2.on q⟩
theorem Tr{b d:Bkt}{a:Actn}{n t:Nat}{s:ByteArray}{k:Nat}(h:BC b (DoR b a) d n t s k)(hs:b.name.size≤1000∧smE b.L∧smL b.U):d.name.size≤1000∧smE d.L∧smL d.U:=by
 by_cases hb:okB b
 ·exact Ao (TN hb h)
 ·rcases h with⟨-,⟨rfl,-⟩,-⟩ | ⟨h,-⟩
  ·exact hs
  ·exact absurd h hb
theorem RW(d:ByteArray):GP (GP d)=GP d:=by
 have:=DQ d
 conv=>lhs;rw [GP]
 rw [if_neg (by omega)]
theorem Rs(u:Upl):Iw (Iw u)=Iw u:=by
 unfold Iw
 simp only [Ix]
 congr 1
 rw [← List.map_take,List.take_take,List.map_map]
 congr 1
 funext p
 simp only [Function.comp,IE,RW]
theorem P3(b:Bkt):EW (EW b)=EW b:=by
 unfold EW
 simp only [Ix,Pz]
 congr 1
 unfold Le
 rw [← List.map_take,List.take_take,List.map_map]
 congr 1
 funext u
 exact Rs u
theorem fewB_id(b:Bkt):smE (EW b).L∧smL (EW b).U:=⟨(Dq b).2.1,(Dq b).2.2⟩
set_option maxRecDepth 100000 in
theorem walk(b:Bkt)(lv uv:Value)(x:Actn)(px:Value)(w:World)(hin:InB w b lv uv)(hx:EA x)(hpx:Pces w w.heap.size px x.P):
  Calls Tryz.prog 3 #[bkt b lv uv,Bc x px] w fun e w'=>e=.returned (.bool true)∧Q w w':=by
 obtain⟨hv,hn,hl,hu,-,-,-⟩:=hin
 obtain⟨A1,c1,rfl⟩:=hv.1.form
 obtain⟨A2,c2,rfl⟩:=hv.2.form
 obtain⟨A3,c3,rfl⟩:=hpx.form
 have q0:Q w ((w.alloc (.cells (bcl b (.slice A1 b.L.length c1) (.slice A2 b.U.length c2)) 26)).alloc (.cells (acl x (.slice A3 x.P.length c3)) 29)):=((Q.refl w).alloc _).alloc _
 have Z1:Hid (Bx ((w.alloc (.cells (bcl b (.slice A1 b.L.length c1) (.slice A2 b.U.length c2)) 26)).alloc (.cells (acl x (.slice A3 x.P.length c3)) 29)) w.heap.size 26 (bcl b (.slice A1 b.L.length c1) (.slice A2 b.U.length c2))):=AC ((Bx.new _ _ _).on ((Q.refl _).alloc _))
 have Z2:Hid (Bx ((w.alloc (.cells (bcl b (.slice A1 b.L.length c1) (.slice A2 b.U.length c2)) 26)).alloc (.cells (acl x (.slice A3 x.P.length c3)) 29)) (w.heap.size+1) 29 (acl x (.slice A3 x.P.length c3))):=AC (by
  have h:=Bx.new (w.alloc (.cells (bcl b (.slice A1 b.L.length c1) (.slice A2 b.U.length c2)) 26)) 29 (acl x (.slice A3 x.P.length c3))
  simpa only [World.size_alloc] using h)
 have K0:Hid (In2 w ((w.alloc (.cells (bcl b (.slice A1 b.L.length c1) (.slice A2 b.U.length c2)) 26)).alloc (.cells (acl x (.slice A3 x.P.length c3)) 29)) b x):=AC ⟨⟨_,_,_,_,Z1.out,hv.on q0⟩,⟨_,_,Z2.out,hpx.on q0⟩,q0⟩
 obtain⟨x0,hx0⟩:∃ z,z=((w.alloc (.cells (bcl b (.slice A1 b.L.length c1) (.slice A2 b.U.length c2)) 26)).alloc (.cells (acl x (.slice A3 x.P.length c3)) 29)):=⟨_,rfl⟩
 have FB:=AC fun d (q:Q w d)=>Jk b (.slice A1 b.L.length c1) (.slice A2 b.U.length c2) d hn hl hu (hv.on q)
 have FX:=AC fun d (q:Q w d)=>QR x (.slice A3 x.P.length c3) d hx (hpx.on q)
 obtain⟨hx5,hx6,hx8,hx7⟩:=ST hx
 obtain⟨sn,sE,sU⟩:=Dq b
 obtain⟨B,hB⟩:∃ B,B=EW b:=⟨_,rfl⟩
 obtain⟨X,hX⟩:∃ X,X=Hy x:=⟨_,rfl⟩
 have FW0:EW B=B:=by rw [hB,P3]
 have FW:=AC FW0
 rw [← hB] at FB sn sE sU
 rw [← hX] at FX hx5 hx6 hx7 hx8
 simp only [bkt] at FB
 simp only [Bc,acl] at FX
 rw [← hx0] at K0 q0 Z1 Z2
 clear hn hl hu hv hB hX hx hpx
 have AW:=AC fun x=>LZ x
 have HS:=AC (And.intro sn (And.intro sE sU))
 have HX:=AC (And.intro hx5 (And.intro hx6 hx7))
 clear sn sE sU hx5 hx6 hx7 hx8
 rw [bkt,Bc,acl]
 go_enter Tryz.func3,Tryz.ntmps3
 go_upto_region 1 with fail
 simp only [bcl,acl] at hx0
 rw [← hx0]
 clear hx0
 have KD:Hid (∀ d,Q x0 d→(Bx d w.heap.size 26 (bcl b (.slice A1 b.L.length c1) (.slice A2 b.U.length c2))∧Bx d (w.heap.size+1) 29 (acl x (.slice A3 x.P.length c3))∧Q x0 d)):=AC fun d q=>⟨Z1.out.on q,Z2.out.on q,q⟩
 have q9:=(Q.refl x0).drew
 refine Aw (F:=(fun d=>Bx d w.heap.size 26 (bcl b (.slice A1 b.L.length c1) (.slice A2 b.U.length c2))∧Bx d (w.heap.size+1) 29 (acl x (.slice A3 x.P.length c3))∧Q x0 d)) (st:=4) (by kernel_rfl) (KD.out _ q9) (fun hTill=>?_)
 refine AL (i:=0) (o:=_) (v:=?_) rfl (by kernel_rfl) (by kernel_rfl) (by kernel_rfl) (by kernel_rfl) (by rfl) (fun _ _ _ h=>h) (Or.inl ⟨by rfl,?_⟩) (by assumption) ?_
 rotate_left
 ·(intro wx hSw;obtain⟨hz0,hz1,hz2,hz3,hz4⟩:=AD hSw.1;go_simp;(try with_reducible rfl))
 refine pg ?_
 refine J8 (i:=2) (o:=_) (v:=?_) rfl (by kernel_rfl) (by kernel_rfl) (by kernel_rfl) (by kernel_rfl) (by kernel_rfl) (by rfl) (fun _ _ _ h=>h) (Or.inl ⟨by rfl,?_⟩) (by assumption) ?_
 rotate_left
 ·(intro wx hSw;obtain⟨⟨hz0,hz1,hz2,hz3,hz4,hz5,hz6⟩,-⟩:=Dz hSw.2.1;go_simp;(try with_reducible rfl))
 refine pg ?_
 refine Af (i:=1) (o:=_) (by kernel_rfl) rfl (fun K hK=>?_)
 go_simp
 go_at_call 10
 refine(FB.out _ (q0.trans q9)).mono ?_
 rintro e w1 ⟨A5,c5,A6,c6,rfl,v1,q1⟩
 have V1:=AC v1
 clear v1
 refine hK.out _ _ (KD.out _ (q9.trans q1)) (fun hTill=>?_)
 clear hK K
 refine pg ?_
 refine Af (i:=3) (o:=_) (by kernel_rfl) rfl (fun K hK=>?_)
 go_simp
 go_at_call 11
 refine(FX.out _ (q0.trans (q9.trans q1))).mono ?_
 rintro e w2 ⟨A7,c7,rfl,v2,q2⟩
 have V2:=AC v2
 clear v2
 refine hK.out _ _ (KD.out _ ((q9.trans q1).trans q2)) (fun hTill=>?_)
 clear hK K
 refine pg ?_
 have K3:=AC (K0.out.on ((q9.trans q1).trans q2))
 clear K0 Z1 Z2 KD FB FX
 have U1:=AC (V1.out.on q2)
 clear V1
 obtain⟨g1,g2,g3,g4,hbb,-⟩:=K3.out.1
 obtain⟨k0,k1,k2,k3,k4⟩:=AD hbb
 obtain⟨f0,f1,f2,f3,f4⟩:=AF hbb
 obtain⟨nB,gB⟩:=K3.out.1.store U1.out
 have cB:=K3.out.1.calm
 have a1:=K3.out.2.1.kp cB gB (by omega)
 have u2:=V2.out.kp cB gB
 have qB:=gB.q K3.out.2.2 (Nat.le_refl _)
 have K4:=AC (And.intro (show In2 w _ B x from⟨nB,a1,qB⟩) u2)
 clear nB gB cB a1 u2 qB hbb K3 U1 V2
 refine Ah (i:=4) (o:=_) (by kernel_rfl) rfl (by rfl) (fun K hK=>?_)
 go_simp
 refine hK.out _ _ ?_
 clear hK K
 refine pg ?_
 obtain⟨x4,hx4⟩:∃ z,z=(((((w2.setCell ⟨w.heap.size,0,none⟩ (.string B.name)).setCell ⟨w.heap.size,1,none⟩ (.int .i64 B.st)).setCell ⟨w.heap.size,2,none⟩ (.slice A5 B.L.length c5)).setCell ⟨w.heap.size,3,none⟩ (.slice A6 B.U.length c6)).setCell ⟨w.heap.size,4,none⟩ (.int .u64 (B.last:Nat))):=⟨_,rfl⟩
 rw [← hx4] at K4 ⊢
 clear hx4 k0 k1 k2 k3 k4 f0 f1 f2 f3 f4
 obtain⟨g5,g6,hbb,-⟩:=K4.out.1.2.1
 obtain⟨⟨k0,k1,k2,k3,k4,k5,k6⟩,f0,f1,f2,f3,f4,f5,f6⟩:=Dz hbb
 obtain⟨nA,gA⟩:=K4.out.1.2.1.store K4.out.2
 have cA:=K4.out.1.2.1.calm
 have b1:=K4.out.1.1.kp cA gA (by omega)
 have qA:=gA.q K4.out.1.2.2 (by omega)
 have K6:Hid (In2 w _ B X):=AC ⟨b1,nA,qA⟩
 clear nA gA cA b1 qA hbb K4
 refine Ah (i:=5) (o:=_) (by kernel_rfl) rfl (by rfl) (fun K hK=>?_)
 go_simp
 refine hK.out _ _ ?_
 clear hK K
 refine pg ?_
 obtain⟨x6,hx6⟩:∃ z,z=(((((((x4.setCell ⟨w.heap.size+1,0,none⟩ (.int .u8 (X.kind:Nat))).setCell ⟨w.heap.size+1,1,none⟩ (.string X.key)).setCell ⟨w.heap.size+1,2,none⟩ (.string X.data)).setCell ⟨w.heap.size+1,3,none⟩ (.int .u64 (X.id:Nat))).setCell ⟨w.heap.size+1,4,none⟩ (.int .i64 X.n)).setCell ⟨w.heap.size+1,5,none⟩ (.int .i64 X.tm)).setCell ⟨w.heap.size+1,6,none⟩ (.slice A7 X.P.length c7)):=⟨_,rfl⟩
 rw [← hx6] at K6 ⊢
 clear hx6 k0 k1 k2 k3 k4 k5 k6 f0 f1 f2 f3 f4 f5 f6
 refine BR (by kernel_rfl) ?_ _
 clear q0 q9 q1 q2 FW0
 obtain⟨g1,g2,g3,g4,hbb,hvv⟩:=K6.out.1
 obtain⟨k0,k1,k2,k3,k4⟩:=AD hbb
 have C0:=Jk B (.slice g1 B.L.length g2) (.slice g3 B.U.length g4) x6 (by have:=HS.out.1;unfold maxLen;omega) (by have:=HS.out.2.1.1.1;unfold maxLen;omega) (by have:=HS.out.2.2.1;unfold maxLen;omega) hvv
 rw [FW.out] at C0
 have C:=AC C0
 simp only [bkt] at C
 clear C0 hbb hvv FW
 go_wp2_with fail
 refine(C.out).mono ?_
 rintro e w7 ⟨A5,c5,A6,c6,rfl,v7,q7⟩
 clear C k0 k1 k2 k3 k4
 go_upto_region 3 with fail
 have q8:=q7.alloc (.cells #[.string B.name,.int .i64 B.st,.slice A5 B.L.length c5,.slice A6 B.U.length c6,.int .u64 (B.last:Nat)] 26)
 have KW:Hid (BoxB (w7.alloc (.cells #[.string B.name,.int .i64 B.st,.slice A5 B.L.length c5,.slice A6 B.U.length c6,.int .u64 (B.last:Nat)] 26)) w7.heap.size B∧w.heap.size+1<w7.heap.size):=AC ⟨BoxB.new v7,by have:=K6.out.2.1.lt;have:=q7.size;omega⟩
 have K8:=AC (K6.out.on q8)
 obtain⟨x8,hx8⟩:∃ z,z=w7.alloc (.cells #[.string B.name,.int .i64 B.st,.slice A5 B.L.length c5,.slice A6 B.U.length c6,.int .u64 (B.last:Nat)] 26):=⟨_,rfl⟩
 obtain⟨pw,hpw⟩:∃ z,z=w7.heap.size:=⟨_,rfl⟩
 rw [← hx8] at KW K8 ⊢
 rw [← hpw] at KW ⊢
 clear hx8 hpw q8 q7 v7 K6
 -- what is done,by the program and by the document
 obtain⟨d,n,t,sx,k,hFD⟩:=TO B X
 have DO1:Hid (∀ z A c A' c' Ax cx,BktV z B (.slice A B.L.length c) (.slice A' B.U.length c')→Pces z z.heap.size (.slice Ax X.P.length cx) X.P→Calls Tryz.prog 12 #[bkt B (.slice A B.L.length c) (.slice A' B.U.length c'),Bc X (.slice Ax X.P.length cx)] z fun e w'=>∃ A c A' c',e=.returned (BZ d (.slice A d.L.length c) (.slice A' d.U.length c') (n+t) sx k)∧BktV w' d (.slice A d.L.length c) (.slice A' d.U.length c')∧Q z w'):=
  AC fun z A c A' c' Ax cx hv hp=>TP B _ _ X _ z d n t sx k hFD HX.out.1 (by have:=HX.out.2.1;omega) (by have:=HX.out.2.2;omega) HS.out.1 HS.out.2.1 HS.out.2.2 hv hp
 have DO2:Hid (∀ z A c A' c' Ax cx,BktV z B (.slice A B.L.length c) (.slice A' B.U.length c')→Pces z z.heap.size (.slice Ax X.P.length cx) X.P→Calls Tryz.prog 13 #[bkt B (.slice A B.L.length c) (.slice A' B.U.length c'),Bc X (.slice Ax X.P.length cx)] z fun e w'=>∃ A c A' c',e=.returned (BZ d (.slice A d.L.length c) (.slice A' d.U.length c') (n+t) sx k)∧BktV w' d (.slice A d.L.length c) (.slice A' d.U.length c')∧Q z w'):=
  AC fun z A c A' c' Ax cx hv hp=>RP B _ _ X _ z d n t sx k hFD HX.out.1 (by have:=HX.out.2.1;omega) (by have:=HX.out.2.2;omega) HS.out.1 HS.out.2.1 HS.out.2.2 hv hp
 obtain⟨i1,hi1⟩:∃ i,i=n+t:=⟨_,rfl⟩
 rw [← hi1] at DO1 DO2
 simp only [bkt,Bc,acl,BZ,BL] at DO1 DO2
 clear hi1
 have HFD:=AC hFD
 obtain⟨g1,g2,g3,g4,hbb,hvv⟩:=K8.out.1
 obtain⟨g5,g6,hba,hva⟩:=K8.out.2.1
 obtain⟨g7,g8,g9,g10,hbw,hvw⟩:=KW.out.1
 have I3:Hid (S2 w x8.drew pw B X (.slice g1 B.L.length g2) (.slice g3 B.U.length g4) (.slice g5 X.P.length g6) (.slice g7 B.L.length g8) (.slice g9 B.U.length g10)):=AC (S2.on ⟨hbb,hba,hbw,K8.out.2.2,KW.out.2⟩ (Q.refl x8).drew)
 have CC:Hid (C2 x8.drew B X (.slice g1 B.L.length g2) (.slice g3 B.U.length g4) (.slice g5 X.P.length g6) (.slice g7 B.L.length g8) (.slice g9 B.U.length g10)):=AC (C2.on ⟨hvv,hva,hvw⟩ (Q.refl x8).drew)
 clear hbb hvv hba hva hbw hvw K8 KW hFD
 go_cut [6,7] from 14 to 19 (fun V7 V8 wx=>∃ p7 p8,V7=.pointer (some ⟨p7,0,none⟩)∧V8=.pointer (some ⟨p8,0,none⟩)∧S2 w wx pw B X (.slice g1 B.L.length g2) (.slice g3 B.U.length g4) (.slice g5 X.P.length g6) (.slice g7 B.L.length g8) (.slice g9 B.U.length g10)∧C2 wx B X (.slice g1 B.L.length g2) (.slice g3 B.U.length g4) (.slice g5 X.P.length g6) (.slice g7 B.L.length g8) (.slice g9 B.U.length g10)∧BoxD wx p7 d i1 sx k∧BoxD wx p8 d i1 sx k)
 case first=>
  refine wp_region_held_drew (S:=fun z=>S2 w z pw B X (.slice g1 B.L.length g2) (.slice g3 B.U.length g4) (.slice g5 X.P.length g6) (.slice g7 B.L.length g8) (.slice g9 B.U.length g10)) (by kernel_rfl) I3.out (fun hHeld=>?_)
  obtain⟨z0,hz0⟩:∃ z,z=x8.drew:=⟨_,rfl⟩
  rw [← hz0] at I3 CC ⊢
  clear hz0
  refine tkL (v:=?_) 0 rfl ?_ ?_ (hS:=by first | assumption | exact I3.out)
  rotate_left
  ·(intro wx hSw;obtain⟨hz0,hz1,hz2,hz3,hz4⟩:=AD hSw.1;go_simp;(try with_reducible rfl))
  refine pg ?_
  refine tkL (v:=?_) 1 rfl ?_ ?_ (hS:=by first | assumption | exact I3.out)
  rotate_left
  ·(intro wx hSw;obtain⟨⟨hz0,hz1,hz2,hz3,hz4,hz5,hz6⟩,-⟩:=Dz hSw.2.1;go_simp;(try with_reducible rfl))
  refine pg ?_
  refine tkL (v:=?_) 3 rfl ?_ ?_ (hS:=by first | assumption | exact I3.out)
  rotate_left
  ·(intro wx hSw;obtain⟨hz0,hz1,hz2,hz3,hz4⟩:=AD hSw.1;go_simp;(try with_reducible rfl))
  refine pg ?_
  refine tkL (v:=?_) 4 rfl ?_ ?_ (hS:=by first | assumption | exact I3.out)
  rotate_left
  ·(intro wx hSw;obtain⟨⟨hz0,hz1,hz2,hz3,hz4,hz5,hz6⟩,-⟩:=Dz hSw.2.1;go_simp;(try with_reducible rfl))
  refine pg ?_
  refine aR [2,6,7] ?_
  refine(aC rfl (fun K hK=>?_) (aC rfl (fun K hK=>?_) (aC rfl (fun K hK=>?_) aN)))
  ·go_simp
   go_at_call 12
   refine(DO1.out _ _ _ _ _ _ _ CC.out.1 CC.out.2.1).mono ?_
   rintro e z1 ⟨E1a,e1a,E1b,e1b,rfl,v,q⟩
   have I3:=AC (I3.out.on q)
   have CC:=AC (CC.out.on q)
   have V1:=AC v
   clear v q
   refine hK.out _ _ I3.out (fun hHeld=>?_)
   clear hK K
   refine pg ?_
   refine aR [5,6,7] ?_
   refine(aC rfl (fun K hK=>?_) (aC rfl (fun K hK=>?_) (aC rfl (fun K hK=>?_) aN)))
   ·go_simp
    go_at_call 13
    refine(DO2.out _ _ _ _ _ _ _ CC.out.1 CC.out.2.1).mono ?_
    rintro e z2 ⟨E2a,e2a,E2b,e2b,rfl,v,q⟩
    have I3:=AC (I3.out.on q)
    have CC:=AC (CC.out.on q)
    have V1:=AC (V1.out.on q)
    have V2:=AC v
    clear v q
    refine hK.out _ _ I3.out (fun hHeld=>?_)
    clear hK K
    refine pg ?_
    refine aR [6,7] ?_
    refine(aC rfl (fun K hK=>?_) (aC rfl (fun K hK=>?_) aN))
    ·have Z7:=AC (I3.out.newD)
     have N7w:Hid (pw≠z2.heap.size):=AC (Nat.ne_of_lt I3.out.2.2.1.lt)
     have q:=(Q.refl z2).alloc (.cells Bb 34)
     have I3:=AC (I3.out.on q)
     have CC:=AC (CC.out.on q)
     have V1:=AC (V1.out.on q)
     have V2:=AC (V2.out.on q)
     clear q
     go_simp
     obtain⟨z3,hw⟩:∃ z,z=z2.alloc (.cells Bb 34):=⟨_,rfl⟩
     rw [← hw] at I3 CC V1 V2 Z7
     simp only [Bb] at hw
     rw [← hw]
     obtain⟨p7,hp⟩:∃ p,p=z2.heap.size:=⟨_,rfl⟩
     rw [← hp] at Z7 N7w ⊢
     clear hw hp
     refine hK.out _ _ I3.out (fun hHeld=>?_)
     clear hK K
     refine pg ?_
     refine aR [7] ?_
     refine(aC rfl (fun K hK=>?_) aN)
     have Z8:=AC (I3.out.newD)
     have NE:Hid (p7≠z3.heap.size):=AC (Nat.ne_of_lt Z7.out.1.lt)
     have N8w:Hid (pw≠z3.heap.size):=AC (Nat.ne_of_lt I3.out.2.2.1.lt)
     have q:=(Q.refl z3).alloc (.cells Bb 34)
     have I3:=AC (I3.out.on q)
     have CC:=AC (CC.out.on q)
     have V1:=AC (V1.out.on q)
     have V2:=AC (V2.out.on q)
     have Z7:=AC (Z7.out.on q)
     clear q
     go_simp
     obtain⟨z4,hw⟩:∃ z,z=z3.alloc (.cells Bb 34):=⟨_,rfl⟩
     rw [← hw] at I3 CC V1 V2 Z7 Z8
     simp only [Bb] at hw
     rw [← hw]
     obtain⟨p8,hp⟩:∃ p,p=z3.heap.size:=⟨_,rfl⟩
     rw [← hp] at Z8 NE N8w ⊢
     clear hw hp
     refine hK.out _ _ I3.out (fun hHeld=>?_)
     clear hK K
     refine pg ?_
     refine aR [8] ?_
     refine(aC rfl (fun K hK=>?_) aN)
     obtain⟨⟨r0,r1,r2,r3,r4,r5,r6,r7⟩,f0,f1,f2,f3,f4,f5,f6,f7⟩:=AJ (show Bx _ _ _ #[.string ⟨#[]⟩,.int .i64 0,.slice none 0 0,.slice none 0 0,.int .u64 0,.int .u64 0,.string ⟨#[]⟩,.int .i64 0] from Z7.out.1)
     obtain⟨nD,gD⟩:=Z7.out.store (i:=i1) (s:=sx) (k:=k) V1.out
     have cm:=Z7.out.calm
     have I3:=AC (I3.out.kp gD Z7.out.2 N7w.out)
     have CC:=AC (CC.out.kp cm gD)
     have V2:=AC (V2.out.kp cm gD)
     have Z8:=AC (Z8.out.kp gD (Ne.symm NE.out))
     have LTp7:=AC Z7.out.2
     have D7:=AC nD
     clear nD gD cm Z7 V1
     go_simp
     obtain⟨z5,hw⟩:∃ z,z=((((((((z4.setCell ⟨p7,0,none⟩ (.string d.name)).setCell ⟨p7,1,none⟩ (.int .i64 d.st)).setCell ⟨p7,2,none⟩ (.slice E1a d.L.length e1a)).setCell ⟨p7,3,none⟩ (.slice E1b d.U.length e1b)).setCell ⟨p7,4,none⟩ (.int .u64 (d.last:Nat))).setCell ⟨p7,5,none⟩ (.int .u64 (i1:Nat))).setCell ⟨p7,6,none⟩ (.string sx)).setCell ⟨p7,7,none⟩ (.int .i64 (k:Nat))):=⟨_,rfl⟩
     rw [← hw] at I3 CC V2 Z8 D7 ⊢
     clear hw r0 r1 r2 r3 r4 r5 r6 r7 f0 f1 f2 f3 f4 f5 f6 f7
     refine hK.out _ _ I3.out (fun hHeld=>?_)
     clear hK K
     refine pg ?_
     refine aR [9] ?_
     refine(aC rfl (fun K hK=>?_) aN)
     obtain⟨⟨r0,r1,r2,r3,r4,r5,r6,r7⟩,f0,f1,f2,f3,f4,f5,f6,f7⟩:=AJ (show Bx _ _ _ #[.string ⟨#[]⟩,.int .i64 0,.slice none 0 0,.slice none 0 0,.int .u64 0,.int .u64 0,.string ⟨#[]⟩,.int .i64 0] from Z8.out.1)
     obtain⟨nD,gD⟩:=Z8.out.store (i:=i1) (s:=sx) (k:=k) V2.out
     have cm:=Z8.out.calm
     have I3:=AC (I3.out.kp gD Z8.out.2 N8w.out)
     have CC:=AC (CC.out.kp cm gD)
     have D7:=AC (D7.out.kp cm gD NE.out)
     have LTp8:=AC Z8.out.2
     have D8:=AC nD
     clear nD gD cm Z8 V2
     go_simp
     obtain⟨z6,hw⟩:∃ z,z=((((((((z5.setCell ⟨p8,0,none⟩ (.string d.name)).setCell ⟨p8,1,none⟩ (.int .i64 d.st)).setCell ⟨p8,2,none⟩ (.slice E2a d.L.length e2a)).setCell ⟨p8,3,none⟩ (.slice E2b d.U.length e2b)).setCell ⟨p8,4,none⟩ (.int .u64 (d.last:Nat))).setCell ⟨p8,5,none⟩ (.int .u64 (i1:Nat))).setCell ⟨p8,6,none⟩ (.string sx)).setCell ⟨p8,7,none⟩ (.int .i64 (k:Nat))):=⟨_,rfl⟩
     rw [← hw] at I3 CC D7 D8 ⊢
     clear hw r0 r1 r2 r3 r4 r5 r6 r7 f0 f1 f2 f3 f4 f5 f6 f7
     refine hK.out _ _ I3.out (fun hHeld=>?_)
     clear hK K
     refine pg ?_
     refine wpAnyH_done (by kernel_rfl) ?_ _
     go_wp2_with fail
     go_meet
     exact⟨p7,p8,rfl,rfl,I3.out,CC.out,D7.out,D8.out⟩
    ·have Z8:=AC (I3.out.newD)
     have N8w:Hid (pw≠z2.heap.size):=AC (Nat.ne_of_lt I3.out.2.2.1.lt)
     have q:=(Q.refl z2).alloc (.cells Bb 34)
     have I3:=AC (I3.out.on q)
     have CC:=AC (CC.out.on q)
     have V1:=AC (V1.out.on q)
     have V2:=AC (V2.out.on q)
     clear q
     go_simp
     obtain⟨z7,hw⟩:∃ z,z=z2.alloc (.cells Bb 34):=⟨_,rfl⟩
     rw [← hw] at I3 CC V1 V2 Z8
     simp only [Bb] at hw
     rw [← hw]
     obtain⟨p8,hp⟩:∃ p,p=z2.heap.size:=⟨_,rfl⟩
     rw [← hp] at Z8 N8w ⊢
     clear hw hp
     refine hK.out _ _ I3.out (fun hHeld=>?_)
     clear hK K
     refine pg ?_
     refine aR [6] ?_
     refine(aC rfl (fun K hK=>?_) aN)
     have Z7:=AC (I3.out.newD)
     have NE:Hid (z7.heap.size≠p8):=AC (Nat.ne_of_gt Z8.out.1.lt)
     have N7w:Hid (pw≠z7.heap.size):=AC (Nat.ne_of_lt I3.out.2.2.1.lt)
     have q:=(Q.refl z7).alloc (.cells Bb 34)
     have I3:=AC (I3.out.on q)
     have CC:=AC (CC.out.on q)
     have V1:=AC (V1.out.on q)
     have V2:=AC (V2.out.on q)
     have Z8:=AC (Z8.out.on q)
     clear q
     go_simp
     obtain⟨z8,hw⟩:∃ z,z=z7.alloc (.cells Bb 34):=⟨_,rfl⟩
     rw [← hw] at I3 CC V1 V2 Z8 Z7
     simp only [Bb] at hw
     rw [← hw]
     obtain⟨p7,hp⟩:∃ p,p=z7.heap.size:=⟨_,rfl⟩
     rw [← hp] at Z7 NE N7w ⊢
     clear hw hp
     refine hK.out _ _ I3.out (fun hHeld=>?_)
     clear hK K
     refine pg ?_
     refine aR [8] ?_
     refine(aC rfl (fun K hK=>?_) aN)
     obtain⟨⟨r0,r1,r2,r3,r4,r5,r6,r7⟩,f0,f1,f2,f3,f4,f5,f6,f7⟩:=AJ (show Bx _ _ _ #[.string ⟨#[]⟩,.int .i64 0,.slice none 0 0,.slice none 0 0,.int .u64 0,.int .u64 0,.string ⟨#[]⟩,.int .i64 0] from Z7.out.1)
     obtain⟨nD,gD⟩:=Z7.out.store (i:=i1) (s:=sx) (k:=k) V1.out
     have cm:=Z7.out.calm
     have I3:=AC (I3.out.kp gD Z7.out.2 N7w.out)
     have CC:=AC (CC.out.kp cm gD)
     have V2:=AC (V2.out.kp cm gD)
     have Z8:=AC (Z8.out.kp gD (Ne.symm NE.out))
     have LTp7:=AC Z7.out.2
     have D7:=AC nD
     clear nD gD cm Z7 V1
     go_simp
     obtain⟨z9,hw⟩:∃ z,z=((((((((z8.setCell ⟨p7,0,none⟩ (.string d.name)).setCell ⟨p7,1,none⟩ (.int .i64 d.st)).setCell ⟨p7,2,none⟩ (.slice E1a d.L.length e1a)).setCell ⟨p7,3,none⟩ (.slice E1b d.U.length e1b)).setCell ⟨p7,4,none⟩ (.int .u64 (d.last:Nat))).setCell ⟨p7,5,none⟩ (.int .u64 (i1:Nat))).setCell ⟨p7,6,none⟩ (.string sx)).setCell ⟨p7,7,none⟩ (.int .i64 (k:Nat))):=⟨_,rfl⟩
     rw [← hw] at I3 CC V2 Z8 D7 ⊢
     clear hw r0 r1 r2 r3 r4 r5 r6 r7 f0 f1 f2 f3 f4 f5 f6 f7
     refine hK.out _ _ I3.out (fun hHeld=>?_)
     clear hK K
     refine pg ?_
     refine aR [9] ?_
     refine(aC rfl (fun K hK=>?_) aN)
     obtain⟨⟨r0,r1,r2,r3,r4,r5,r6,r7⟩,f0,f1,f2,f3,f4,f5,f6,f7⟩:=AJ (show Bx _ _ _ #[.string ⟨#[]⟩,.int .i64 0,.slice none 0 0,.slice none 0 0,.int .u64 0,.int .u64 0,.string ⟨#[]⟩,.int .i64 0] from Z8.out.1)
     obtain⟨nD,gD⟩:=Z8.out.store (i:=i1) (s:=sx) (k:=k) V2.out
     have cm:=Z8.out.calm
     have I3:=AC (I3.out.kp gD Z8.out.2 N8w.out)
     have CC:=AC (CC.out.kp cm gD)
     have D7:=AC (D7.out.kp cm gD NE.out)
     have LTp8:=AC Z8.out.2
     have D8:=AC nD
     clear nD gD cm Z8 V2
     go_simp
     obtain⟨z10,hw⟩:∃ z,z=((((((((z9.setCell ⟨p8,0,none⟩ (.string d.name)).setCell ⟨p8,1,none⟩ (.int .i64 d.st)).setCell ⟨p8,2,none⟩ (.slice E2a d.L.length e2a)).setCell ⟨p8,3,none⟩ (.slice E2b d.U.length e2b)).setCell ⟨p8,4,none⟩ (.int .u64 (d.last:Nat))).setCell ⟨p8,5,none⟩ (.int .u64 (i1:Nat))).setCell ⟨p8,6,none⟩ (.string sx)).setCell ⟨p8,7,none⟩ (.int .i64 (k:Nat))):=⟨_,rfl⟩
     rw [← hw] at I3 CC D7 D8 ⊢
     clear hw r0 r1 r2 r3 r4 r5 r6 r7 f0 f1 f2 f3 f4 f5 f6 f7
     refine hK.out _ _ I3.out (fun hHeld=>?_)
     clear hK K
     refine pg ?_
     refine wpAnyH_done (by kernel_rfl) ?_ _
     go_wp2_with fail
     go_meet
     exact⟨p7,p8,rfl,rfl,I3.out,CC.out,D7.out,D8.out⟩
   ·have Z7:=AC (I3.out.newD)
    have N7w:Hid (pw≠z1.heap.size):=AC (Nat.ne_of_lt I3.out.2.2.1.lt)
    have q:=(Q.refl z1).alloc (.cells Bb 34)
    have I3:=AC (I3.out.on q)
    have CC:=AC (CC.out.on q)
    have V1:=AC (V1.out.on q)
    clear q
    go_simp
    obtain⟨z11,hw⟩:∃ z,z=z1.alloc (.cells Bb 34):=⟨_,rfl⟩
    rw [← hw] at I3 CC V1 Z7
    simp only [Bb] at hw
    rw [← hw]
    obtain⟨p7,hp⟩:∃ p,p=z1.heap.size:=⟨_,rfl⟩
    rw [← hp] at Z7 N7w ⊢
    clear hw hp
    refine hK.out _ _ I3.out (fun hHeld=>?_)
    clear hK K
    refine pg ?_
    refine aR [5,7] ?_
    refine(aC rfl (fun K hK=>?_) (aC rfl (fun K hK=>?_) aN))
    ·go_simp
     go_at_call 13
     refine(DO2.out _ _ _ _ _ _ _ CC.out.1 CC.out.2.1).mono ?_
     rintro e z12 ⟨E2a,e2a,E2b,e2b,rfl,v,q⟩
     have I3:=AC (I3.out.on q)
     have CC:=AC (CC.out.on q)
     have V1:=AC (V1.out.on q)
     have Z7:=AC (Z7.out.on q)
     have V2:=AC v
     clear v q
     refine hK.out _ _ I3.out (fun hHeld=>?_)
     clear hK K
     refine pg ?_
     refine aR [7] ?_
     refine(aC rfl (fun K hK=>?_) aN)
     have Z8:=AC (I3.out.newD)
     have NE:Hid (p7≠z12.heap.size):=AC (Nat.ne_of_lt Z7.out.1.lt)
     have N8w:Hid (pw≠z12.heap.size):=AC (Nat.ne_of_lt I3.out.2.2.1.lt)
     have q:=(Q.refl z12).alloc (.cells Bb 34)
     have I3:=AC (I3.out.on q)
     have CC:=AC (CC.out.on q)
     have V1:=AC (V1.out.on q)
     have Z7:=AC (Z7.out.on q)
     have V2:=AC (V2.out.on q)
     clear q
     go_simp
     obtain⟨z13,hw⟩:∃ z,z=z12.alloc (.cells Bb 34):=⟨_,rfl⟩
     rw [← hw] at I3 CC V1 Z7 V2 Z8
     simp only [Bb] at hw
     rw [← hw]
     obtain⟨p8,hp⟩:∃ p,p=z12.heap.size:=⟨_,rfl⟩
     rw [← hp] at Z8 NE N8w ⊢
     clear hw hp
     refine hK.out _ _ I3.out (fun hHeld=>?_)
     clear hK K
     refine pg ?_
     refine aR [8] ?_
     refine(aC rfl (fun K hK=>?_) aN)
     obtain⟨⟨r0,r1,r2,r3,r4,r5,r6,r7⟩,f0,f1,f2,f3,f4,f5,f6,f7⟩:=AJ (show Bx _ _ _ #[.string ⟨#[]⟩,.int .i64 0,.slice none 0 0,.slice none 0 0,.int .u64 0,.int .u64 0,.string ⟨#[]⟩,.int .i64 0] from Z7.out.1)
     obtain⟨nD,gD⟩:=Z7.out.store (i:=i1) (s:=sx) (k:=k) V1.out
     have cm:=Z7.out.calm
     have I3:=AC (I3.out.kp gD Z7.out.2 N7w.out)
     have CC:=AC (CC.out.kp cm gD)
     have V2:=AC (V2.out.kp cm gD)
     have Z8:=AC (Z8.out.kp gD (Ne.symm NE.out))
     have LTp7:=AC Z7.out.2
     have D7:=AC nD
     clear nD gD cm Z7 V1
     go_simp
     obtain⟨z14,hw⟩:∃ z,z=((((((((z13.setCell ⟨p7,0,none⟩ (.string d.name)).setCell ⟨p7,1,none⟩ (.int .i64 d.st)).setCell ⟨p7,2,none⟩ (.slice E1a d.L.length e1a)).setCell ⟨p7,3,none⟩ (.slice E1b d.U.length e1b)).setCell ⟨p7,4,none⟩ (.int .u64 (d.last:Nat))).setCell ⟨p7,5,none⟩ (.int .u64 (i1:Nat))).setCell ⟨p7,6,none⟩ (.string sx)).setCell ⟨p7,7,none⟩ (.int .i64 (k:Nat))):=⟨_,rfl⟩
     rw [← hw] at I3 CC V2 Z8 D7 ⊢
     clear hw r0 r1 r2 r3 r4 r5 r6 r7 f0 f1 f2 f3 f4 f5 f6 f7
     refine hK.out _ _ I3.out (fun hHeld=>?_)
     clear hK K
     refine pg ?_
     refine aR [9] ?_
     refine(aC rfl (fun K hK=>?_) aN)
     obtain⟨⟨r0,r1,r2,r3,r4,r5,r6,r7⟩,f0,f1,f2,f3,f4,f5,f6,f7⟩:=AJ (show Bx _ _ _ #[.string ⟨#[]⟩,.int .i64 0,.slice none 0 0,.slice none 0 0,.int .u64 0,.int .u64 0,.string ⟨#[]⟩,.int .i64 0] from Z8.out.1)
     obtain⟨nD,gD⟩:=Z8.out.store (i:=i1) (s:=sx) (k:=k) V2.out
     have cm:=Z8.out.calm
     have I3:=AC (I3.out.kp gD Z8.out.2 N8w.out)
     have CC:=AC (CC.out.kp cm gD)
     have D7:=AC (D7.out.kp cm gD NE.out)
     have LTp8:=AC Z8.out.2
     have D8:=AC nD
     clear nD gD cm Z8 V2
     go_simp
     obtain⟨z15,hw⟩:∃ z,z=((((((((z14.setCell ⟨p8,0,none⟩ (.string d.name)).setCell ⟨p8,1,none⟩ (.int .i64 d.st)).setCell ⟨p8,2,none⟩ (.slice E2a d.L.length e2a)).setCell ⟨p8,3,none⟩ (.slice E2b d.U.length e2b)).setCell ⟨p8,4,none⟩ (.int .u64 (d.last:Nat))).setCell ⟨p8,5,none⟩ (.int .u64 (i1:Nat))).setCell ⟨p8,6,none⟩ (.string sx)).setCell ⟨p8,7,none⟩ (.int .i64 (k:Nat))):=⟨_,rfl⟩
     rw [← hw] at I3 CC D7 D8 ⊢
     clear hw r0 r1 r2 r3 r4 r5 r6 r7 f0 f1 f2 f3 f4 f5 f6 f7
     refine hK.out _ _ I3.out (fun hHeld=>?_)
     clear hK K
     refine pg ?_
     refine wpAnyH_done (by kernel_rfl) ?_ _
     go_wp2_with fail
     go_meet
     exact⟨p7,p8,rfl,rfl,I3.out,CC.out,D7.out,D8.out⟩
    ·have Z8:=AC (I3.out.newD)
     have NE:Hid (p7≠z11.heap.size):=AC (Nat.ne_of_lt Z7.out.1.lt)
     have N8w:Hid (pw≠z11.heap.size):=AC (Nat.ne_of_lt I3.out.2.2.1.lt)
     have q:=(Q.refl z11).alloc (.cells Bb 34)
     have I3:=AC (I3.out.on q)
     have CC:=AC (CC.out.on q)
     have V1:=AC (V1.out.on q)
     have Z7:=AC (Z7.out.on q)
     clear q
     go_simp
     obtain⟨z16,hw⟩:∃ z,z=z11.alloc (.cells Bb 34):=⟨_,rfl⟩
     rw [← hw] at I3 CC V1 Z7 Z8
     simp only [Bb] at hw
     rw [← hw]
     obtain⟨p8,hp⟩:∃ p,p=z11.heap.size:=⟨_,rfl⟩
     rw [← hp] at Z8 NE N8w ⊢
     clear hw hp
     refine hK.out _ _ I3.out (fun hHeld=>?_)
     clear hK K
     refine pg ?_
     refine aR [5] ?_
     refine(aC rfl (fun K hK=>?_) aN)
     go_simp
     go_at_call 13
     refine(DO2.out _ _ _ _ _ _ _ CC.out.1 CC.out.2.1).mono ?_
     rintro e z17 ⟨E2a,e2a,E2b,e2b,rfl,v,q⟩
     have I3:=AC (I3.out.on q)
     have CC:=AC (CC.out.on q)
     have V1:=AC (V1.out.on q)
     have Z7:=AC (Z7.out.on q)
     have Z8:=AC (Z8.out.on q)
     have V2:=AC v
     clear v q
     refine hK.out _ _ I3.out (fun hHeld=>?_)
     clear hK K
     refine pg ?_
     refine aR [8] ?_
     refine(aC rfl (fun K hK=>?_) aN)
     obtain⟨⟨r0,r1,r2,r3,r4,r5,r6,r7⟩,f0,f1,f2,f3,f4,f5,f6,f7⟩:=AJ (show Bx _ _ _ #[.string ⟨#[]⟩,.int .i64 0,.slice none 0 0,.slice none 0 0,.int .u64 0,.int .u64 0,.string ⟨#[]⟩,.int .i64 0] from Z7.out.1)
     obtain⟨nD,gD⟩:=Z7.out.store (i:=i1) (s:=sx) (k:=k) V1.out
     have cm:=Z7.out.calm
     have I3:=AC (I3.out.kp gD Z7.out.2 N7w.out)
     have CC:=AC (CC.out.kp cm gD)
     have Z8:=AC (Z8.out.kp gD (Ne.symm NE.out))
     have V2:=AC (V2.out.kp cm gD)
     have LTp7:=AC Z7.out.2
     have D7:=AC nD
     clear nD gD cm Z7 V1
     go_simp
     obtain⟨z18,hw⟩:∃ z,z=((((((((z17.setCell ⟨p7,0,none⟩ (.string d.name)).setCell ⟨p7,1,none⟩ (.int .i64 d.st)).setCell ⟨p7,2,none⟩ (.slice E1a d.L.length e1a)).setCell ⟨p7,3,none⟩ (.slice E1b d.U.length e1b)).setCell ⟨p7,4,none⟩ (.int .u64 (d.last:Nat))).setCell ⟨p7,5,none⟩ (.int .u64 (i1:Nat))).setCell ⟨p7,6,none⟩ (.string sx)).setCell ⟨p7,7,none⟩ (.int .i64 (k:Nat))):=⟨_,rfl⟩
     rw [← hw] at I3 CC Z8 V2 D7 ⊢
     clear hw r0 r1 r2 r3 r4 r5 r6 r7 f0 f1 f2 f3 f4 f5 f6 f7
     refine hK.out _ _ I3.out (fun hHeld=>?_)
     clear hK K
     refine pg ?_
     refine aR [9] ?_
     refine(aC rfl (fun K hK=>?_) aN)
     obtain⟨⟨r0,r1,r2,r3,r4,r5,r6,r7⟩,f0,f1,f2,f3,f4,f5,f6,f7⟩:=AJ (show Bx _ _ _ #[.string ⟨#[]⟩,.int .i64 0,.slice none 0 0,.slice none 0 0,.int .u64 0,.int .u64 0,.string ⟨#[]⟩,.int .i64 0] from Z8.out.1)
     obtain⟨nD,gD⟩:=Z8.out.store (i:=i1) (s:=sx) (k:=k) V2.out
     have cm:=Z8.out.calm
     have I3:=AC (I3.out.kp gD Z8.out.2 N8w.out)
     have CC:=AC (CC.out.kp cm gD)
     have D7:=AC (D7.out.kp cm gD NE.out)
     have LTp8:=AC Z8.out.2
     have D8:=AC nD
     clear nD gD cm Z8 V2
     go_simp
     obtain⟨z19,hw⟩:∃ z,z=((((((((z18.setCell ⟨p8,0,none⟩ (.string d.name)).setCell ⟨p8,1,none⟩ (.int .i64 d.st)).setCell ⟨p8,2,none⟩ (.slice E2a d.L.length e2a)).setCell ⟨p8,3,none⟩ (.slice E2b d.U.length e2b)).setCell ⟨p8,4,none⟩ (.int .u64 (d.last:Nat))).setCell ⟨p8,5,none⟩ (.int .u64 (i1:Nat))).setCell ⟨p8,6,none⟩ (.string sx)).setCell ⟨p8,7,none⟩ (.int .i64 (k:Nat))):=⟨_,rfl⟩
     rw [← hw] at I3 CC D7 D8 ⊢
     clear hw r0 r1 r2 r3 r4 r5 r6 r7 f0 f1 f2 f3 f4 f5 f6 f7
     refine hK.out _ _ I3.out (fun hHeld=>?_)
     clear hK K
     refine pg ?_
     refine wpAnyH_done (by kernel_rfl) ?_ _
     go_wp2_with fail
     go_meet
     exact⟨p7,p8,rfl,rfl,I3.out,CC.out,D7.out,D8.out⟩
   ·have Z8:=AC (I3.out.newD)
    have N8w:Hid (pw≠z1.heap.size):=AC (Nat.ne_of_lt I3.out.2.2.1.lt)
    have q:=(Q.refl z1).alloc (.cells Bb 34)
    have I3:=AC (I3.out.on q)
    have CC:=AC (CC.out.on q)
    have V1:=AC (V1.out.on q)
    clear q
    go_simp
    obtain⟨z20,hw⟩:∃ z,z=z1.alloc (.cells Bb 34):=⟨_,rfl⟩
    rw [← hw] at I3 CC V1 Z8
    simp only [Bb] at hw
    rw [← hw]
    obtain⟨p8,hp⟩:∃ p,p=z1.heap.size:=⟨_,rfl⟩
    rw [← hp] at Z8 N8w ⊢
    clear hw hp
    refine hK.out _ _ I3.out (fun hHeld=>?_)
    clear hK K
    refine pg ?_
    refine aR [5,6] ?_
    refine(aC rfl (fun K hK=>?_) (aC rfl (fun K hK=>?_) aN))
    ·go_simp
     go_at_call 13
     refine(DO2.out _ _ _ _ _ _ _ CC.out.1 CC.out.2.1).mono ?_
     rintro e z21 ⟨E2a,e2a,E2b,e2b,rfl,v,q⟩
     have I3:=AC (I3.out.on q)
     have CC:=AC (CC.out.on q)
     have V1:=AC (V1.out.on q)
     have Z8:=AC (Z8.out.on q)
     have V2:=AC v
     clear v q
     refine hK.out _ _ I3.out (fun hHeld=>?_)
     clear hK K
     refine pg ?_
     refine aR [6] ?_
     refine(aC rfl (fun K hK=>?_) aN)
     have Z7:=AC (I3.out.newD)
     have NE:Hid (z21.heap.size≠p8):=AC (Nat.ne_of_gt Z8.out.1.lt)
     have N7w:Hid (pw≠z21.heap.size):=AC (Nat.ne_of_lt I3.out.2.2.1.lt)
     have q:=(Q.refl z21).alloc (.cells Bb 34)
     have I3:=AC (I3.out.on q)
     have CC:=AC (CC.out.on q)
     have V1:=AC (V1.out.on q)
     have Z8:=AC (Z8.out.on q)
     have V2:=AC (V2.out.on q)
     clear q
     go_simp
     obtain⟨z22,hw⟩:∃ z,z=z21.alloc (.cells Bb 34):=⟨_,rfl⟩
     rw [← hw] at I3 CC V1 Z8 V2 Z7
     simp only [Bb] at hw
     rw [← hw]
     obtain⟨p7,hp⟩:∃ p,p=z21.heap.size:=⟨_,rfl⟩
     rw [← hp] at Z7 NE N7w ⊢
     clear hw hp
     refine hK.out _ _ I3.out (fun hHeld=>?_)
     clear hK K
     refine pg ?_
     refine aR [8] ?_
     refine(aC rfl (fun K hK=>?_) aN)
     obtain⟨⟨r0,r1,r2,r3,r4,r5,r6,r7⟩,f0,f1,f2,f3,f4,f5,f6,f7⟩:=AJ (show Bx _ _ _ #[.string ⟨#[]⟩,.int .i64 0,.slice none 0 0,.slice none 0 0,.int .u64 0,.int .u64 0,.string ⟨#[]⟩,.int .i64 0] from Z7.out.1)
     obtain⟨nD,gD⟩:=Z7.out.store (i:=i1) (s:=sx) (k:=k) V1.out
     have cm:=Z7.out.calm
     have I3:=AC (I3.out.kp gD Z7.out.2 N7w.out)
     have CC:=AC (CC.out.kp cm gD)
     have Z8:=AC (Z8.out.kp gD (Ne.symm NE.out))
     have V2:=AC (V2.out.kp cm gD)
     have LTp7:=AC Z7.out.2
     have D7:=AC nD
     clear nD gD cm Z7 V1
     go_simp
     obtain⟨z23,hw⟩:∃ z,z=((((((((z22.setCell ⟨p7,0,none⟩ (.string d.name)).setCell ⟨p7,1,none⟩ (.int .i64 d.st)).setCell ⟨p7,2,none⟩ (.slice E1a d.L.length e1a)).setCell ⟨p7,3,none⟩ (.slice E1b d.U.length e1b)).setCell ⟨p7,4,none⟩ (.int .u64 (d.last:Nat))).setCell ⟨p7,5,none⟩ (.int .u64 (i1:Nat))).setCell ⟨p7,6,none⟩ (.string sx)).setCell ⟨p7,7,none⟩ (.int .i64 (k:Nat))):=⟨_,rfl⟩
     rw [← hw] at I3 CC Z8 V2 D7 ⊢
     clear hw r0 r1 r2 r3 r4 r5 r6 r7 f0 f1 f2 f3 f4 f5 f6 f7
     refine hK.out _ _ I3.out (fun hHeld=>?_)
     clear hK K
     refine pg ?_
     refine aR [9] ?_
     refine(aC rfl (fun K hK=>?_) aN)
     obtain⟨⟨r0,r1,r2,r3,r4,r5,r6,r7⟩,f0,f1,f2,f3,f4,f5,f6,f7⟩:=AJ (show Bx _ _ _ #[.string ⟨#[]⟩,.int .i64 0,.slice none 0 0,.slice none 0 0,.int .u64 0,.int .u64 0,.string ⟨#[]⟩,.int .i64 0] from Z8.out.1)
     obtain⟨nD,gD⟩:=Z8.out.store (i:=i1) (s:=sx) (k:=k) V2.out
     have cm:=Z8.out.calm
     have I3:=AC (I3.out.kp gD Z8.out.2 N8w.out)
     have CC:=AC (CC.out.kp cm gD)
     have D7:=AC (D7.out.kp cm gD NE.out)
     have LTp8:=AC Z8.out.2
     have D8:=AC nD
     clear nD gD cm Z8 V2
     go_simp
     obtain⟨z24,hw⟩:∃ z,z=((((((((z23.setCell ⟨p8,0,none⟩ (.string d.name)).setCell ⟨p8,1,none⟩ (.int .i64 d.st)).setCell ⟨p8,2,none⟩ (.slice E2a d.L.length e2a)).setCell ⟨p8,3,none⟩ (.slice E2b d.U.length e2b)).setCell ⟨p8,4,none⟩ (.int .u64 (d.last:Nat))).setCell ⟨p8,5,none⟩ (.int .u64 (i1:Nat))).setCell ⟨p8,6,none⟩ (.string sx)).setCell ⟨p8,7,none⟩ (.int .i64 (k:Nat))):=⟨_,rfl⟩
     rw [← hw] at I3 CC D7 D8 ⊢
     clear hw r0 r1 r2 r3 r4 r5 r6 r7 f0 f1 f2 f3 f4 f5 f6 f7
     refine hK.out _ _ I3.out (fun hHeld=>?_)
     clear hK K
     refine pg ?_
     refine wpAnyH_done (by kernel_rfl) ?_ _
     go_wp2_with fail
     go_meet
     exact⟨p7,p8,rfl,rfl,I3.out,CC.out,D7.out,D8.out⟩
    ·have Z7:=AC (I3.out.newD)
     have NE:Hid (z20.heap.size≠p8):=AC (Nat.ne_of_gt Z8.out.1.lt)
     have N7w:Hid (pw≠z20.heap.size):=AC (Nat.ne_of_lt I3.out.2.2.1.lt)
     have q:=(Q.refl z20).alloc (.cells Bb 34)
     have I3:=AC (I3.out.on q)
     have CC:=AC (CC.out.on q)
     have V1:=AC (V1.out.on q)
     have Z8:=AC (Z8.out.on q)
     clear q
     go_simp
     obtain⟨z25,hw⟩:∃ z,z=z20.alloc (.cells Bb 34):=⟨_,rfl⟩
     rw [← hw] at I3 CC V1 Z8 Z7
     simp only [Bb] at hw
     rw [← hw]
     obtain⟨p7,hp⟩:∃ p,p=z20.heap.size:=⟨_,rfl⟩
     rw [← hp] at Z7 NE N7w ⊢
     clear hw hp
     refine hK.out _ _ I3.out (fun hHeld=>?_)
     clear hK K
     refine pg ?_
     refine aR [5] ?_
     refine(aC rfl (fun K hK=>?_) aN)
     go_simp
     go_at_call 13
     refine(DO2.out _ _ _ _ _ _ _ CC.out.1 CC.out.2.1).mono ?_
     rintro e z26 ⟨E2a,e2a,E2b,e2b,rfl,v,q⟩
     have I3:=AC (I3.out.on q)
     have CC:=AC (CC.out.on q)
     have V1:=AC (V1.out.on q)
     have Z8:=AC (Z8.out.on q)
     have Z7:=AC (Z7.out.on q)
     have V2:=AC v
     clear v q
     refine hK.out _ _ I3.out (fun hHeld=>?_)
     clear hK K
     refine pg ?_
     refine aR [8] ?_
     refine(aC rfl (fun K hK=>?_) aN)
     obtain⟨⟨r0,r1,r2,r3,r4,r5,r6,r7⟩,f0,f1,f2,f3,f4,f5,f6,f7⟩:=AJ (show Bx _ _ _ #[.string ⟨#[]⟩,.int .i64 0,.slice none 0 0,.slice none 0 0,.int .u64 0,.int .u64 0,.string ⟨#[]⟩,.int .i64 0] from Z7.out.1)
     obtain⟨nD,gD⟩:=Z7.out.store (i:=i1) (s:=sx) (k:=k) V1.out
     have cm:=Z7.out.calm
     have I3:=AC (I3.out.kp gD Z7.out.2 N7w.out)
     have CC:=AC (CC.out.kp cm gD)
     have Z8:=AC (Z8.out.kp gD (Ne.symm NE.out))
     have V2:=AC (V2.out.kp cm gD)
     have LTp7:=AC Z7.out.2
     have D7:=AC nD
     clear nD gD cm Z7 V1
     go_simp
     obtain⟨z27,hw⟩:∃ z,z=((((((((z26.setCell ⟨p7,0,none⟩ (.string d.name)).setCell ⟨p7,1,none⟩ (.int .i64 d.st)).setCell ⟨p7,2,none⟩ (.slice E1a d.L.length e1a)).setCell ⟨p7,3,none⟩ (.slice E1b d.U.length e1b)).setCell ⟨p7,4,none⟩ (.int .u64 (d.last:Nat))).setCell ⟨p7,5,none⟩ (.int .u64 (i1:Nat))).setCell ⟨p7,6,none⟩ (.string sx)).setCell ⟨p7,7,none⟩ (.int .i64 (k:Nat))):=⟨_,rfl⟩
     rw [← hw] at I3 CC Z8 V2 D7 ⊢
     clear hw r0 r1 r2 r3 r4 r5 r6 r7 f0 f1 f2 f3 f4 f5 f6 f7
     refine hK.out _ _ I3.out (fun hHeld=>?_)
     clear hK K
     refine pg ?_
     refine aR [9] ?_
     refine(aC rfl (fun K hK=>?_) aN)
     obtain⟨⟨r0,r1,r2,r3,r4,r5,r6,r7⟩,f0,f1,f2,f3,f4,f5,f6,f7⟩:=AJ (show Bx _ _ _ #[.string ⟨#[]⟩,.int .i64 0,.slice none 0 0,.slice none 0 0,.int .u64 0,.int .u64 0,.string ⟨#[]⟩,.int .i64 0] from Z8.out.1)
     obtain⟨nD,gD⟩:=Z8.out.store (i:=i1) (s:=sx) (k:=k) V2.out
     have cm:=Z8.out.calm
     have I3:=AC (I3.out.kp gD Z8.out.2 N8w.out)
     have CC:=AC (CC.out.kp cm gD)
     have D7:=AC (D7.out.kp cm gD NE.out)
     have LTp8:=AC Z8.out.2
     have D8:=AC nD
     clear nD gD cm Z8 V2
     go_simp
     obtain⟨z28,hw⟩:∃ z,z=((((((((z27.setCell ⟨p8,0,none⟩ (.string d.name)).setCell ⟨p8,1,none⟩ (.int .i64 d.st)).setCell ⟨p8,2,none⟩ (.slice E2a d.L.length e2a)).setCell ⟨p8,3,none⟩ (.slice E2b d.U.length e2b)).setCell ⟨p8,4,none⟩ (.int .u64 (d.last:Nat))).setCell ⟨p8,5,none⟩ (.int .u64 (i1:Nat))).setCell ⟨p8,6,none⟩ (.string sx)).setCell ⟨p8,7,none⟩ (.int .i64 (k:Nat))):=⟨_,rfl⟩
     rw [← hw] at I3 CC D7 D8 ⊢
     clear hw r0 r1 r2 r3 r4 r5 r6 r7 f0 f1 f2 f3 f4 f5 f6 f7
     refine hK.out _ _ I3.out (fun hHeld=>?_)
     clear hK K
     refine pg ?_
     refine wpAnyH_done (by kernel_rfl) ?_ _
     go_wp2_with fail
     go_meet
     exact⟨p7,p8,rfl,rfl,I3.out,CC.out,D7.out,D8.out⟩
  ·have Z7:=AC (I3.out.newD)
   have N7w:Hid (pw≠z0.heap.size):=AC (Nat.ne_of_lt I3.out.2.2.1.lt)
   have q:=(Q.refl z0).alloc (.cells Bb 34)
   have I3:=AC (I3.out.on q)
   have CC:=AC (CC.out.on q)
   clear q
   go_simp
   obtain⟨z29,hw⟩:∃ z,z=z0.alloc (.cells Bb 34):=⟨_,rfl⟩
   rw [← hw] at I3 CC Z7
   simp only [Bb] at hw
   rw [← hw]
   obtain⟨p7,hp⟩:∃ p,p=z0.heap.size:=⟨_,rfl⟩
   rw [← hp] at Z7 N7w ⊢
   clear hw hp
   refine hK.out _ _ I3.out (fun hHeld=>?_)
   clear hK K
   refine pg ?_
   refine aR [2,7] ?_
   refine(aC rfl (fun K hK=>?_) (aC rfl (fun K hK=>?_) aN))
   ·go_simp
    go_at_call 12
    refine(DO1.out _ _ _ _ _ _ _ CC.out.1 CC.out.2.1).mono ?_
    rintro e z30 ⟨E1a,e1a,E1b,e1b,rfl,v,q⟩
    have I3:=AC (I3.out.on q)
    have CC:=AC (CC.out.on q)
    have Z7:=AC (Z7.out.on q)
    have V1:=AC v
    clear v q
    refine hK.out _ _ I3.out (fun hHeld=>?_)
    clear hK K
    refine pg ?_
    refine aR [5,7] ?_
    refine(aC rfl (fun K hK=>?_) (aC rfl (fun K hK=>?_) aN))
    ·go_simp
     go_at_call 13
     refine(DO2.out _ _ _ _ _ _ _ CC.out.1 CC.out.2.1).mono ?_
     rintro e z31 ⟨E2a,e2a,E2b,e2b,rfl,v,q⟩
     have I3:=AC (I3.out.on q)
     have CC:=AC (CC.out.on q)
     have Z7:=AC (Z7.out.on q)
     have V1:=AC (V1.out.on q)
     have V2:=AC v
     clear v q
     refine hK.out _ _ I3.out (fun hHeld=>?_)
     clear hK K
     refine pg ?_
     refine aR [7] ?_
     refine(aC rfl (fun K hK=>?_) aN)
     have Z8:=AC (I3.out.newD)
     have NE:Hid (p7≠z31.heap.size):=AC (Nat.ne_of_lt Z7.out.1.lt)
     have N8w:Hid (pw≠z31.heap.size):=AC (Nat.ne_of_lt I3.out.2.2.1.lt)
     have q:=(Q.refl z31).alloc (.cells Bb 34)
     have I3:=AC (I3.out.on q)
     have CC:=AC (CC.out.on q)
     have Z7:=AC (Z7.out.on q)
     have V1:=AC (V1.out.on q)
     have V2:=AC (V2.out.on q)
     clear q
     go_simp
     obtain⟨z32,hw⟩:∃ z,z=z31.alloc (.cells Bb 34):=⟨_,rfl⟩
     rw [← hw] at I3 CC Z7 V1 V2 Z8
     simp only [Bb] at hw
     rw [← hw]
     obtain⟨p8,hp⟩:∃ p,p=z31.heap.size:=⟨_,rfl⟩
     rw [← hp] at Z8 NE N8w ⊢
     clear hw hp
     refine hK.out _ _ I3.out (fun hHeld=>?_)
     clear hK K
     refine pg ?_
     refine aR [8] ?_
     refine(aC rfl (fun K hK=>?_) aN)
     obtain⟨⟨r0,r1,r2,r3,r4,r5,r6,r7⟩,f0,f1,f2,f3,f4,f5,f6,f7⟩:=AJ (show Bx _ _ _ #[.string ⟨#[]⟩,.int .i64 0,.slice none 0 0,.slice none 0 0,.int .u64 0,.int .u64 0,.string ⟨#[]⟩,.int .i64 0] from Z7.out.1)
     obtain⟨nD,gD⟩:=Z7.out.store (i:=i1) (s:=sx) (k:=k) V1.out
     have cm:=Z7.out.calm
     have I3:=AC (I3.out.kp gD Z7.out.2 N7w.out)
     have CC:=AC (CC.out.kp cm gD)
     have V2:=AC (V2.out.kp cm gD)
     have Z8:=AC (Z8.out.kp gD (Ne.symm NE.out))
     have LTp7:=AC Z7.out.2
     have D7:=AC nD
     clear nD gD cm Z7 V1
     go_simp
     obtain⟨z33,hw⟩:∃ z,z=((((((((z32.setCell ⟨p7,0,none⟩ (.string d.name)).setCell ⟨p7,1,none⟩ (.int .i64 d.st)).setCell ⟨p7,2,none⟩ (.slice E1a d.L.length e1a)).setCell ⟨p7,3,none⟩ (.slice E1b d.U.length e1b)).setCell ⟨p7,4,none⟩ (.int .u64 (d.last:Nat))).setCell ⟨p7,5,none⟩ (.int .u64 (i1:Nat))).setCell ⟨p7,6,none⟩ (.string sx)).setCell ⟨p7,7,none⟩ (.int .i64 (k:Nat))):=⟨_,rfl⟩
     rw [← hw] at I3 CC V2 Z8 D7 ⊢
     clear hw r0 r1 r2 r3 r4 r5 r6 r7 f0 f1 f2 f3 f4 f5 f6 f7
     refine hK.out _ _ I3.out (fun hHeld=>?_)
     clear hK K
     refine pg ?_
     refine aR [9] ?_
     refine(aC rfl (fun K hK=>?_) aN)
     obtain⟨⟨r0,r1,r2,r3,r4,r5,r6,r7⟩,f0,f1,f2,f3,f4,f5,f6,f7⟩:=AJ (show Bx _ _ _ #[.string ⟨#[]⟩,.int .i64 0,.slice none 0 0,.slice none 0 0,.int .u64 0,.int .u64 0,.string ⟨#[]⟩,.int .i64 0] from Z8.out.1)
     obtain⟨nD,gD⟩:=Z8.out.store (i:=i1) (s:=sx) (k:=k) V2.out
     have cm:=Z8.out.calm
     have I3:=AC (I3.out.kp gD Z8.out.2 N8w.out)
     have CC:=AC (CC.out.kp cm gD)
     have D7:=AC (D7.out.kp cm gD NE.out)
     have LTp8:=AC Z8.out.2
     have D8:=AC nD
     clear nD gD cm Z8 V2
     go_simp
     obtain⟨z34,hw⟩:∃ z,z=((((((((z33.setCell ⟨p8,0,none⟩ (.string d.name)).setCell ⟨p8,1,none⟩ (.int .i64 d.st)).setCell ⟨p8,2,none⟩ (.slice E2a d.L.length e2a)).setCell ⟨p8,3,none⟩ (.slice E2b d.U.length e2b)).setCell ⟨p8,4,none⟩ (.int .u64 (d.last:Nat))).setCell ⟨p8,5,none⟩ (.int .u64 (i1:Nat))).setCell ⟨p8,6,none⟩ (.string sx)).setCell ⟨p8,7,none⟩ (.int .i64 (k:Nat))):=⟨_,rfl⟩
     rw [← hw] at I3 CC D7 D8 ⊢
     clear hw r0 r1 r2 r3 r4 r5 r6 r7 f0 f1 f2 f3 f4 f5 f6 f7
     refine hK.out _ _ I3.out (fun hHeld=>?_)
     clear hK K
     refine pg ?_
     refine wpAnyH_done (by kernel_rfl) ?_ _
     go_wp2_with fail
     go_meet
     exact⟨p7,p8,rfl,rfl,I3.out,CC.out,D7.out,D8.out⟩
    ·have Z8:=AC (I3.out.newD)
     have NE:Hid (p7≠z30.heap.size):=AC (Nat.ne_of_lt Z7.out.1.lt)
     have N8w:Hid (pw≠z30.heap.size):=AC (Nat.ne_of_lt I3.out.2.2.1.lt)
     have q:=(Q.refl z30).alloc (.cells Bb 34)
     have I3:=AC (I3.out.on q)
     have CC:=AC (CC.out.on q)
     have Z7:=AC (Z7.out.on q)
     have V1:=AC (V1.out.on q)
     clear q
     go_simp
     obtain⟨z35,hw⟩:∃ z,z=z30.alloc (.cells Bb 34):=⟨_,rfl⟩
     rw [← hw] at I3 CC Z7 V1 Z8
     simp only [Bb] at hw
     rw [← hw]
     obtain⟨p8,hp⟩:∃ p,p=z30.heap.size:=⟨_,rfl⟩
     rw [← hp] at Z8 NE N8w ⊢
     clear hw hp
     refine hK.out _ _ I3.out (fun hHeld=>?_)
     clear hK K
     refine pg ?_
     refine aR [5] ?_
     refine(aC rfl (fun K hK=>?_) aN)
     go_simp
     go_at_call 13
     refine(DO2.out _ _ _ _ _ _ _ CC.out.1 CC.out.2.1).mono ?_
     rintro e z36 ⟨E2a,e2a,E2b,e2b,rfl,v,q⟩
     have I3:=AC (I3.out.on q)
     have CC:=AC (CC.out.on q)
     have Z7:=AC (Z7.out.on q)
     have V1:=AC (V1.out.on q)
     have Z8:=AC (Z8.out.on q)
     have V2:=AC v
     clear v q
     refine hK.out _ _ I3.out (fun hHeld=>?_)
     clear hK K
     refine pg ?_
     refine aR [8] ?_
     refine(aC rfl (fun K hK=>?_) aN)
     obtain⟨⟨r0,r1,r2,r3,r4,r5,r6,r7⟩,f0,f1,f2,f3,f4,f5,f6,f7⟩:=AJ (show Bx _ _ _ #[.string ⟨#[]⟩,.int .i64 0,.slice none 0 0,.slice none 0 0,.int .u64 0,.int .u64 0,.string ⟨#[]⟩,.int .i64 0] from Z7.out.1)
     obtain⟨nD,gD⟩:=Z7.out.store (i:=i1) (s:=sx) (k:=k) V1.out
     have cm:=Z7.out.calm
     have I3:=AC (I3.out.kp gD Z7.out.2 N7w.out)
     have CC:=AC (CC.out.kp cm gD)
     have Z8:=AC (Z8.out.kp gD (Ne.symm NE.out))
     have V2:=AC (V2.out.kp cm gD)
     have LTp7:=AC Z7.out.2
     have D7:=AC nD
     clear nD gD cm Z7 V1
     go_simp
     obtain⟨z37,hw⟩:∃ z,z=((((((((z36.setCell ⟨p7,0,none⟩ (.string d.name)).setCell ⟨p7,1,none⟩ (.int .i64 d.st)).setCell ⟨p7,2,none⟩ (.slice E1a d.L.length e1a)).setCell ⟨p7,3,none⟩ (.slice E1b d.U.length e1b)).setCell ⟨p7,4,none⟩ (.int .u64 (d.last:Nat))).setCell ⟨p7,5,none⟩ (.int .u64 (i1:Nat))).setCell ⟨p7,6,none⟩ (.string sx)).setCell ⟨p7,7,none⟩ (.int .i64 (k:Nat))):=⟨_,rfl⟩
     rw [← hw] at I3 CC Z8 V2 D7 ⊢
     clear hw r0 r1 r2 r3 r4 r5 r6 r7 f0 f1 f2 f3 f4 f5 f6 f7
     refine hK.out _ _ I3.out (fun hHeld=>?_)
     clear hK K
     refine pg ?_
     refine aR [9] ?_
     refine(aC rfl (fun K hK=>?_) aN)
     obtain⟨⟨r0,r1,r2,r3,r4,r5,r6,r7⟩,f0,f1,f2,f3,f4,f5,f6,f7⟩:=AJ (show Bx _ _ _ #[.string ⟨#[]⟩,.int .i64 0,.slice none 0 0,.slice none 0 0,.int .u64 0,.int .u64 0,.string ⟨#[]⟩,.int .i64 0] from Z8.out.1)
     obtain⟨nD,gD⟩:=Z8.out.store (i:=i1) (s:=sx) (k:=k) V2.out
     have cm:=Z8.out.calm
     have I3:=AC (I3.out.kp gD Z8.out.2 N8w.out)
     have CC:=AC (CC.out.kp cm gD)
     have D7:=AC (D7.out.kp cm gD NE.out)
     have LTp8:=AC Z8.out.2
     have D8:=AC nD
     clear nD gD cm Z8 V2
     go_simp
     obtain⟨z38,hw⟩:∃ z,z=((((((((z37.setCell ⟨p8,0,none⟩ (.string d.name)).setCell ⟨p8,1,none⟩ (.int .i64 d.st)).setCell ⟨p8,2,none⟩ (.slice E2a d.L.length e2a)).setCell ⟨p8,3,none⟩ (.slice E2b d.U.length e2b)).setCell ⟨p8,4,none⟩ (.int .u64 (d.last:Nat))).setCell ⟨p8,5,none⟩ (.int .u64 (i1:Nat))).setCell ⟨p8,6,none⟩ (.string sx)).setCell ⟨p8,7,none⟩ (.int .i64 (k:Nat))):=⟨_,rfl⟩
     rw [← hw] at I3 CC D7 D8 ⊢
     clear hw r0 r1 r2 r3 r4 r5 r6 r7 f0 f1 f2 f3 f4 f5 f6 f7
     refine hK.out _ _ I3.out (fun hHeld=>?_)
     clear hK K
     refine pg ?_
     refine wpAnyH_done (by kernel_rfl) ?_ _
     go_wp2_with fail
     go_meet
     exact⟨p7,p8,rfl,rfl,I3.out,CC.out,D7.out,D8.out⟩
   ·have Z8:=AC (I3.out.newD)
    have NE:Hid (p7≠z29.heap.size):=AC (Nat.ne_of_lt Z7.out.1.lt)
    have N8w:Hid (pw≠z29.heap.size):=AC (Nat.ne_of_lt I3.out.2.2.1.lt)
    have q:=(Q.refl z29).alloc (.cells Bb 34)
    have I3:=AC (I3.out.on q)
    have CC:=AC (CC.out.on q)
    have Z7:=AC (Z7.out.on q)
    clear q
    go_simp
    obtain⟨z39,hw⟩:∃ z,z=z29.alloc (.cells Bb 34):=⟨_,rfl⟩
    rw [← hw] at I3 CC Z7 Z8
    simp only [Bb] at hw
    rw [← hw]
    obtain⟨p8,hp⟩:∃ p,p=z29.heap.size:=⟨_,rfl⟩
    rw [← hp] at Z8 NE N8w ⊢
    clear hw hp
    refine hK.out _ _ I3.out (fun hHeld=>?_)
    clear hK K
    refine pg ?_
    refine aR [2] ?_
    refine(aC rfl (fun K hK=>?_) aN)
    go_simp
    go_at_call 12
    refine(DO1.out _ _ _ _ _ _ _ CC.out.1 CC.out.2.1).mono ?_
    rintro e z40 ⟨E1a,e1a,E1b,e1b,rfl,v,q⟩
    have I3:=AC (I3.out.on q)
    have CC:=AC (CC.out.on q)
    have Z7:=AC (Z7.out.on q)
    have Z8:=AC (Z8.out.on q)
    have V1:=AC v
    clear v q
    refine hK.out _ _ I3.out (fun hHeld=>?_)
    clear hK K
    refine pg ?_
    refine aR [5] ?_
    refine(aC rfl (fun K hK=>?_) aN)
    go_simp
    go_at_call 13
    refine(DO2.out _ _ _ _ _ _ _ CC.out.1 CC.out.2.1).mono ?_
    rintro e z41 ⟨E2a,e2a,E2b,e2b,rfl,v,q⟩
    have I3:=AC (I3.out.on q)
    have CC:=AC (CC.out.on q)
    have Z7:=AC (Z7.out.on q)
    have Z8:=AC (Z8.out.on q)
    have V1:=AC (V1.out.on q)
    have V2:=AC v
    clear v q
    refine hK.out _ _ I3.out (fun hHeld=>?_)
    clear hK K
    refine pg ?_
    refine aR [8] ?_
    refine(aC rfl (fun K hK=>?_) aN)
    obtain⟨⟨r0,r1,r2,r3,r4,r5,r6,r7⟩,f0,f1,f2,f3,f4,f5,f6,f7⟩:=AJ (show Bx _ _ _ #[.string ⟨#[]⟩,.int .i64 0,.slice none 0 0,.slice none 0 0,.int .u64 0,.int .u64 0,.string ⟨#[]⟩,.int .i64 0] from Z7.out.1)
    obtain⟨nD,gD⟩:=Z7.out.store (i:=i1) (s:=sx) (k:=k) V1.out
    have cm:=Z7.out.calm
    have I3:=AC (I3.out.kp gD Z7.out.2 N7w.out)
    have CC:=AC (CC.out.kp cm gD)
    have Z8:=AC (Z8.out.kp gD (Ne.symm NE.out))
    have V2:=AC (V2.out.kp cm gD)
    have LTp7:=AC Z7.out.2
    have D7:=AC nD
    clear nD gD cm Z7 V1
    go_simp
    obtain⟨z42,hw⟩:∃ z,z=((((((((z41.setCell ⟨p7,0,none⟩ (.string d.name)).setCell ⟨p7,1,none⟩ (.int .i64 d.st)).setCell ⟨p7,2,none⟩ (.slice E1a d.L.length e1a)).setCell ⟨p7,3,none⟩ (.slice E1b d.U.length e1b)).setCell ⟨p7,4,none⟩ (.int .u64 (d.last:Nat))).setCell ⟨p7,5,none⟩ (.int .u64 (i1:Nat))).setCell ⟨p7,6,none⟩ (.string sx)).setCell ⟨p7,7,none⟩ (.int .i64 (k:Nat))):=⟨_,rfl⟩
    rw [← hw] at I3 CC Z8 V2 D7 ⊢
    clear hw r0 r1 r2 r3 r4 r5 r6 r7 f0 f1 f2 f3 f4 f5 f6 f7
    refine hK.out _ _ I3.out (fun hHeld=>?_)
    clear hK K
    refine pg ?_
    refine aR [9] ?_
    refine(aC rfl (fun K hK=>?_) aN)
    obtain⟨⟨r0,r1,r2,r3,r4,r5,r6,r7⟩,f0,f1,f2,f3,f4,f5,f6,f7⟩:=AJ (show Bx _ _ _ #[.string ⟨#[]⟩,.int .i64 0,.slice none 0 0,.slice none 0 0,.int .u64 0,.int .u64 0,.string ⟨#[]⟩,.int .i64 0] from Z8.out.1)
    obtain⟨nD,gD⟩:=Z8.out.store (i:=i1) (s:=sx) (k:=k) V2.out
    have cm:=Z8.out.calm
    have I3:=AC (I3.out.kp gD Z8.out.2 N8w.out)
    have CC:=AC (CC.out.kp cm gD)
    have D7:=AC (D7.out.kp cm gD NE.out)
    have LTp8:=AC Z8.out.2
    have D8:=AC nD
    clear nD gD cm Z8 V2
    go_simp
    obtain⟨z43,hw⟩:∃ z,z=((((((((z42.setCell ⟨p8,0,none⟩ (.string d.name)).setCell ⟨p8,1,none⟩ (.int .i64 d.st)).setCell ⟨p8,2,none⟩ (.slice E2a d.L.length e2a)).setCell ⟨p8,3,none⟩ (.slice E2b d.U.length e2b)).setCell ⟨p8,4,none⟩ (.int .u64 (d.last:Nat))).setCell ⟨p8,5,none⟩ (.int .u64 (i1:Nat))).setCell ⟨p8,6,none⟩ (.string sx)).setCell ⟨p8,7,none⟩ (.int .i64 (k:Nat))):=⟨_,rfl⟩
    rw [← hw] at I3 CC D7 D8 ⊢
    clear hw r0 r1 r2 r3 r4 r5 r6 r7 f0 f1 f2 f3 f4 f5 f6 f7
    refine hK.out _ _ I3.out (fun hHeld=>?_)
    clear hK K
    refine pg ?_
    refine wpAnyH_done (by kernel_rfl) ?_ _
    go_wp2_with fail
    go_meet
    exact⟨p7,p8,rfl,rfl,I3.out,CC.out,D7.out,D8.out⟩
  ·have Z8:=AC (I3.out.newD)
   have N8w:Hid (pw≠z0.heap.size):=AC (Nat.ne_of_lt I3.out.2.2.1.lt)
   have q:=(Q.refl z0).alloc (.cells Bb 34)
   have I3:=AC (I3.out.on q)
   have CC:=AC (CC.out.on q)
   clear q
   go_simp
   obtain⟨z44,hw⟩:∃ z,z=z0.alloc (.cells Bb 34):=⟨_,rfl⟩
   rw [← hw] at I3 CC Z8
   simp only [Bb] at hw
   rw [← hw]
   obtain⟨p8,hp⟩:∃ p,p=z0.heap.size:=⟨_,rfl⟩
   rw [← hp] at Z8 N8w ⊢
   clear hw hp
   refine hK.out _ _ I3.out (fun hHeld=>?_)
   clear hK K
   refine pg ?_
   refine aR [2,6] ?_
   refine(aC rfl (fun K hK=>?_) (aC rfl (fun K hK=>?_) aN))
   ·go_simp
    go_at_call 12
    refine(DO1.out _ _ _ _ _ _ _ CC.out.1 CC.out.2.1).mono ?_
    rintro e z45 ⟨E1a,e1a,E1b,e1b,rfl,v,q⟩
    have I3:=AC (I3.out.on q)
    have CC:=AC (CC.out.on q)
    have Z8:=AC (Z8.out.on q)
    have V1:=AC v
    clear v q
    refine hK.out _ _ I3.out (fun hHeld=>?_)
    clear hK K
    refine pg ?_
    refine aR [5,6] ?_
    refine(aC rfl (fun K hK=>?_) (aC rfl (fun K hK=>?_) aN))
    ·go_simp
     go_at_call 13
     refine(DO2.out _ _ _ _ _ _ _ CC.out.1 CC.out.2.1).mono ?_
     rintro e z46 ⟨E2a,e2a,E2b,e2b,rfl,v,q⟩
     have I3:=AC (I3.out.on q)
     have CC:=AC (CC.out.on q)
     have Z8:=AC (Z8.out.on q)
     have V1:=AC (V1.out.on q)
     have V2:=AC v
     clear v q
     refine hK.out _ _ I3.out (fun hHeld=>?_)
     clear hK K
     refine pg ?_
     refine aR [6] ?_
     refine(aC rfl (fun K hK=>?_) aN)
     have Z7:=AC (I3.out.newD)
     have NE:Hid (z46.heap.size≠p8):=AC (Nat.ne_of_gt Z8.out.1.lt)
     have N7w:Hid (pw≠z46.heap.size):=AC (Nat.ne_of_lt I3.out.2.2.1.lt)
     have q:=(Q.refl z46).alloc (.cells Bb 34)
     have I3:=AC (I3.out.on q)
     have CC:=AC (CC.out.on q)
     have Z8:=AC (Z8.out.on q)
     have V1:=AC (V1.out.on q)
     have V2:=AC (V2.out.on q)
     clear q
     go_simp
     obtain⟨z47,hw⟩:∃ z,z=z46.alloc (.cells Bb 34):=⟨_,rfl⟩
     rw [← hw] at I3 CC Z8 V1 V2 Z7
     simp only [Bb] at hw
     rw [← hw]
     obtain⟨p7,hp⟩:∃ p,p=z46.heap.size:=⟨_,rfl⟩
     rw [← hp] at Z7 NE N7w ⊢
     clear hw hp
     refine hK.out _ _ I3.out (fun hHeld=>?_)
     clear hK K
     refine pg ?_
     refine aR [8] ?_
     refine(aC rfl (fun K hK=>?_) aN)
     obtain⟨⟨r0,r1,r2,r3,r4,r5,r6,r7⟩,f0,f1,f2,f3,f4,f5,f6,f7⟩:=AJ (show Bx _ _ _ #[.string ⟨#[]⟩,.int .i64 0,.slice none 0 0,.slice none 0 0,.int .u64 0,.int .u64 0,.string ⟨#[]⟩,.int .i64 0] from Z7.out.1)
     obtain⟨nD,gD⟩:=Z7.out.store (i:=i1) (s:=sx) (k:=k) V1.out
     have cm:=Z7.out.calm
     have I3:=AC (I3.out.kp gD Z7.out.2 N7w.out)
     have CC:=AC (CC.out.kp cm gD)
     have Z8:=AC (Z8.out.kp gD (Ne.symm NE.out))
     have V2:=AC (V2.out.kp cm gD)
     have LTp7:=AC Z7.out.2
     have D7:=AC nD
     clear nD gD cm Z7 V1
     go_simp
     obtain⟨z48,hw⟩:∃ z,z=((((((((z47.setCell ⟨p7,0,none⟩ (.string d.name)).setCell ⟨p7,1,none⟩ (.int .i64 d.st)).setCell ⟨p7,2,none⟩ (.slice E1a d.L.length e1a)).setCell ⟨p7,3,none⟩ (.slice E1b d.U.length e1b)).setCell ⟨p7,4,none⟩ (.int .u64 (d.last:Nat))).setCell ⟨p7,5,none⟩ (.int .u64 (i1:Nat))).setCell ⟨p7,6,none⟩ (.string sx)).setCell ⟨p7,7,none⟩ (.int .i64 (k:Nat))):=⟨_,rfl⟩
     rw [← hw] at I3 CC Z8 V2 D7 ⊢
     clear hw r0 r1 r2 r3 r4 r5 r6 r7 f0 f1 f2 f3 f4 f5 f6 f7
     refine hK.out _ _ I3.out (fun hHeld=>?_)
     clear hK K
     refine pg ?_
     refine aR [9] ?_
     refine(aC rfl (fun K hK=>?_) aN)
     obtain⟨⟨r0,r1,r2,r3,r4,r5,r6,r7⟩,f0,f1,f2,f3,f4,f5,f6,f7⟩:=AJ (show Bx _ _ _ #[.string ⟨#[]⟩,.int .i64 0,.slice none 0 0,.slice none 0 0,.int .u64 0,.int .u64 0,.string ⟨#[]⟩,.int .i64 0] from Z8.out.1)
     obtain⟨nD,gD⟩:=Z8.out.store (i:=i1) (s:=sx) (k:=k) V2.out
     have cm:=Z8.out.calm
     have I3:=AC (I3.out.kp gD Z8.out.2 N8w.out)
     have CC:=AC (CC.out.kp cm gD)
     have D7:=AC (D7.out.kp cm gD NE.out)
     have LTp8:=AC Z8.out.2
     have D8:=AC nD
     clear nD gD cm Z8 V2
     go_simp
     obtain⟨z49,hw⟩:∃ z,z=((((((((z48.setCell ⟨p8,0,none⟩ (.string d.name)).setCell ⟨p8,1,none⟩ (.int .i64 d.st)).setCell ⟨p8,2,none⟩ (.slice E2a d.L.length e2a)).setCell ⟨p8,3,none⟩ (.slice E2b d.U.length e2b)).setCell ⟨p8,4,none⟩ (.int .u64 (d.last:Nat))).setCell ⟨p8,5,none⟩ (.int .u64 (i1:Nat))).setCell ⟨p8,6,none⟩ (.string sx)).setCell ⟨p8,7,none⟩ (.int .i64 (k:Nat))):=⟨_,rfl⟩
     rw [← hw] at I3 CC D7 D8 ⊢
     clear hw r0 r1 r2 r3 r4 r5 r6 r7 f0 f1 f2 f3 f4 f5 f6 f7
     refine hK.out _ _ I3.out (fun hHeld=>?_)
     clear hK K
     refine pg ?_
     refine wpAnyH_done (by kernel_rfl) ?_ _
     go_wp2_with fail
     go_meet
     exact⟨p7,p8,rfl,rfl,I3.out,CC.out,D7.out,D8.out⟩
    ·have Z7:=AC (I3.out.newD)
     have NE:Hid (z45.heap.size≠p8):=AC (Nat.ne_of_gt Z8.out.1.lt)
     have N7w:Hid (pw≠z45.heap.size):=AC (Nat.ne_of_lt I3.out.2.2.1.lt)
     have q:=(Q.refl z45).alloc (.cells Bb 34)
     have I3:=AC (I3.out.on q)
     have CC:=AC (CC.out.on q)
     have Z8:=AC (Z8.out.on q)
     have V1:=AC (V1.out.on q)
     clear q
     go_simp
     obtain⟨z50,hw⟩:∃ z,z=z45.alloc (.cells Bb 34):=⟨_,rfl⟩
     rw [← hw] at I3 CC Z8 V1 Z7
     simp only [Bb] at hw
     rw [← hw]
     obtain⟨p7,hp⟩:∃ p,p=z45.heap.size:=⟨_,rfl⟩
     rw [← hp] at Z7 NE N7w ⊢
     clear hw hp
     refine hK.out _ _ I3.out (fun hHeld=>?_)
     clear hK K
     refine pg ?_
     refine aR [5] ?_
     refine(aC rfl (fun K hK=>?_) aN)
     go_simp
     go_at_call 13
     refine(DO2.out _ _ _ _ _ _ _ CC.out.1 CC.out.2.1).mono ?_
     rintro e z51 ⟨E2a,e2a,E2b,e2b,rfl,v,q⟩
     have I3:=AC (I3.out.on q)
     have CC:=AC (CC.out.on q)
     have Z8:=AC (Z8.out.on q)
     have V1:=AC (V1.out.on q)
     have Z7:=AC (Z7.out.on q)
     have V2:=AC v
     clear v q
     refine hK.out _ _ I3.out (fun hHeld=>?_)
     clear hK K
     refine pg ?_
     refine aR [8] ?_
     refine(aC rfl (fun K hK=>?_) aN)
     obtain⟨⟨r0,r1,r2,r3,r4,r5,r6,r7⟩,f0,f1,f2,f3,f4,f5,f6,f7⟩:=AJ (show Bx _ _ _ #[.string ⟨#[]⟩,.int .i64 0,.slice none 0 0,.slice none 0 0,.int .u64 0,.int .u64 0,.string ⟨#[]⟩,.int .i64 0] from Z7.out.1)
     obtain⟨nD,gD⟩:=Z7.out.store (i:=i1) (s:=sx) (k:=k) V1.out
     have cm:=Z7.out.calm
     have I3:=AC (I3.out.kp gD Z7.out.2 N7w.out)
     have CC:=AC (CC.out.kp cm gD)
     have Z8:=AC (Z8.out.kp gD (Ne.symm NE.out))
     have V2:=AC (V2.out.kp cm gD)
     have LTp7:=AC Z7.out.2
     have D7:=AC nD
     clear nD gD cm Z7 V1
     go_simp
     obtain⟨z52,hw⟩:∃ z,z=((((((((z51.setCell ⟨p7,0,none⟩ (.string d.name)).setCell ⟨p7,1,none⟩ (.int .i64 d.st)).setCell ⟨p7,2,none⟩ (.slice E1a d.L.length e1a)).setCell ⟨p7,3,none⟩ (.slice E1b d.U.length e1b)).setCell ⟨p7,4,none⟩ (.int .u64 (d.last:Nat))).setCell ⟨p7,5,none⟩ (.int .u64 (i1:Nat))).setCell ⟨p7,6,none⟩ (.string sx)).setCell ⟨p7,7,none⟩ (.int .i64 (k:Nat))):=⟨_,rfl⟩
     rw [← hw] at I3 CC Z8 V2 D7 ⊢
     clear hw r0 r1 r2 r3 r4 r5 r6 r7 f0 f1 f2 f3 f4 f5 f6 f7
     refine hK.out _ _ I3.out (fun hHeld=>?_)
     clear hK K
     refine pg ?_
     refine aR [9] ?_
     refine(aC rfl (fun K hK=>?_) aN)
     obtain⟨⟨r0,r1,r2,r3,r4,r5,r6,r7⟩,f0,f1,f2,f3,f4,f5,f6,f7⟩:=AJ (show Bx _ _ _ #[.string ⟨#[]⟩,.int .i64 0,.slice none 0 0,.slice none 0 0,.int .u64 0,.int .u64 0,.string ⟨#[]⟩,.int .i64 0] from Z8.out.1)
     obtain⟨nD,gD⟩:=Z8.out.store (i:=i1) (s:=sx) (k:=k) V2.out
     have cm:=Z8.out.calm
     have I3:=AC (I3.out.kp gD Z8.out.2 N8w.out)
     have CC:=AC (CC.out.kp cm gD)
     have D7:=AC (D7.out.kp cm gD NE.out)
     have LTp8:=AC Z8.out.2
     have D8:=AC nD
     clear nD gD cm Z8 V2
     go_simp
     obtain⟨z53,hw⟩:∃ z,z=((((((((z52.setCell ⟨p8,0,none⟩ (.string d.name)).setCell ⟨p8,1,none⟩ (.int .i64 d.st)).setCell ⟨p8,2,none⟩ (.slice E2a d.L.length e2a)).setCell ⟨p8,3,none⟩ (.slice E2b d.U.length e2b)).setCell ⟨p8,4,none⟩ (.int .u64 (d.last:Nat))).setCell ⟨p8,5,none⟩ (.int .u64 (i1:Nat))).setCell ⟨p8,6,none⟩ (.string sx)).setCell ⟨p8,7,none⟩ (.int .i64 (k:Nat))):=⟨_,rfl⟩
     rw [← hw] at I3 CC D7 D8 ⊢
     clear hw r0 r1 r2 r3 r4 r5 r6 r7 f0 f1 f2 f3 f4 f5 f6 f7
     refine hK.out _ _ I3.out (fun hHeld=>?_)
     clear hK K
     refine pg ?_
     refine wpAnyH_done (by kernel_rfl) ?_ _
     go_wp2_with fail
     go_meet
     exact⟨p7,p8,rfl,rfl,I3.out,CC.out,D7.out,D8.out⟩
   ·have Z7:=AC (I3.out.newD)
    have NE:Hid (z44.heap.size≠p8):=AC (Nat.ne_of_gt Z8.out.1.lt)
    have N7w:Hid (pw≠z44.heap.size):=AC (Nat.ne_of_lt I3.out.2.2.1.lt)
    have q:=(Q.refl z44).alloc (.cells Bb 34)
    have I3:=AC (I3.out.on q)
    have CC:=AC (CC.out.on q)
    have Z8:=AC (Z8.out.on q)
    clear q
    go_simp
    obtain⟨z54,hw⟩:∃ z,z=z44.alloc (.cells Bb 34):=⟨_,rfl⟩
    rw [← hw] at I3 CC Z8 Z7
    simp only [Bb] at hw
    rw [← hw]
    obtain⟨p7,hp⟩:∃ p,p=z44.heap.size:=⟨_,rfl⟩
    rw [← hp] at Z7 NE N7w ⊢
    clear hw hp
    refine hK.out _ _ I3.out (fun hHeld=>?_)
    clear hK K
    refine pg ?_
    refine aR [2] ?_
    refine(aC rfl (fun K hK=>?_) aN)
    go_simp
    go_at_call 12
    refine(DO1.out _ _ _ _ _ _ _ CC.out.1 CC.out.2.1).mono ?_
    rintro e z55 ⟨E1a,e1a,E1b,e1b,rfl,v,q⟩
    have I3:=AC (I3.out.on q)
    have CC:=AC (CC.out.on q)
    have Z8:=AC (Z8.out.on q)
    have Z7:=AC (Z7.out.on q)
    have V1:=AC v
    clear v q
    refine hK.out _ _ I3.out (fun hHeld=>?_)
    clear hK K
    refine pg ?_
    refine aR [5] ?_
    refine(aC rfl (fun K hK=>?_) aN)
    go_simp
    go_at_call 13
    refine(DO2.out _ _ _ _ _ _ _ CC.out.1 CC.out.2.1).mono ?_
    rintro e z56 ⟨E2a,e2a,E2b,e2b,rfl,v,q⟩
    have I3:=AC (I3.out.on q)
    have CC:=AC (CC.out.on q)
    have Z8:=AC (Z8.out.on q)
    have Z7:=AC (Z7.out.on q)
    have V1:=AC (V1.out.on q)
    have V2:=AC v
    clear v q
    refine hK.out _ _ I3.out (fun hHeld=>?_)
    clear hK K
    refine pg ?_
    refine aR [8] ?_
    refine(aC rfl (fun K hK=>?_) aN)
    obtain⟨⟨r0,r1,r2,r3,r4,r5,r6,r7⟩,f0,f1,f2,f3,f4,f5,f6,f7⟩:=AJ (show Bx _ _ _ #[.string ⟨#[]⟩,.int .i64 0,.slice none 0 0,.slice none 0 0,.int .u64 0,.int .u64 0,.string ⟨#[]⟩,.int .i64 0] from Z7.out.1)
    obtain⟨nD,gD⟩:=Z7.out.store (i:=i1) (s:=sx) (k:=k) V1.out
    have cm:=Z7.out.calm
    have I3:=AC (I3.out.kp gD Z7.out.2 N7w.out)
    have CC:=AC (CC.out.kp cm gD)
    have Z8:=AC (Z8.out.kp gD (Ne.symm NE.out))
    have V2:=AC (V2.out.kp cm gD)
    have LTp7:=AC Z7.out.2
    have D7:=AC nD
    clear nD gD cm Z7 V1
    go_simp
    obtain⟨z57,hw⟩:∃ z,z=((((((((z56.setCell ⟨p7,0,none⟩ (.string d.name)).setCell ⟨p7,1,none⟩ (.int .i64 d.st)).setCell ⟨p7,2,none⟩ (.slice E1a d.L.length e1a)).setCell ⟨p7,3,none⟩ (.slice E1b d.U.length e1b)).setCell ⟨p7,4,none⟩ (.int .u64 (d.last:Nat))).setCell ⟨p7,5,none⟩ (.int .u64 (i1:Nat))).setCell ⟨p7,6,none⟩ (.string sx)).setCell ⟨p7,7,none⟩ (.int .i64 (k:Nat))):=⟨_,rfl⟩
    rw [← hw] at I3 CC Z8 V2 D7 ⊢
    clear hw r0 r1 r2 r3 r4 r5 r6 r7 f0 f1 f2 f3 f4 f5 f6 f7
    refine hK.out _ _ I3.out (fun hHeld=>?_)
    clear hK K
    refine pg ?_
    refine aR [9] ?_
    refine(aC rfl (fun K hK=>?_) aN)
    obtain⟨⟨r0,r1,r2,r3,r4,r5,r6,r7⟩,f0,f1,f2,f3,f4,f5,f6,f7⟩:=AJ (show Bx _ _ _ #[.string ⟨#[]⟩,.int .i64 0,.slice none 0 0,.slice none 0 0,.int .u64 0,.int .u64 0,.string ⟨#[]⟩,.int .i64 0] from Z8.out.1)
    obtain⟨nD,gD⟩:=Z8.out.store (i:=i1) (s:=sx) (k:=k) V2.out
    have cm:=Z8.out.calm
    have I3:=AC (I3.out.kp gD Z8.out.2 N8w.out)
    have CC:=AC (CC.out.kp cm gD)
    have D7:=AC (D7.out.kp cm gD NE.out)
    have LTp8:=AC Z8.out.2
    have D8:=AC nD
    clear nD gD cm Z8 V2
    go_simp
    obtain⟨z58,hw⟩:∃ z,z=((((((((z57.setCell ⟨p8,0,none⟩ (.string d.name)).setCell ⟨p8,1,none⟩ (.int .i64 d.st)).setCell ⟨p8,2,none⟩ (.slice E2a d.L.length e2a)).setCell ⟨p8,3,none⟩ (.slice E2b d.U.length e2b)).setCell ⟨p8,4,none⟩ (.int .u64 (d.last:Nat))).setCell ⟨p8,5,none⟩ (.int .u64 (i1:Nat))).setCell ⟨p8,6,none⟩ (.string sx)).setCell ⟨p8,7,none⟩ (.int .i64 (k:Nat))):=⟨_,rfl⟩
    rw [← hw] at I3 CC D7 D8 ⊢
    clear hw r0 r1 r2 r3 r4 r5 r6 r7 f0 f1 f2 f3 f4 f5 f6 f7
    refine hK.out _ _ I3.out (fun hHeld=>?_)
    clear hK K
    refine pg ?_
    refine wpAnyH_done (by kernel_rfl) ?_ _
    go_wp2_with fail
    go_meet
    exact⟨p7,p8,rfl,rfl,I3.out,CC.out,D7.out,D8.out⟩
 case rest=>
  obtain⟨p7,p8,rfl,rfl,hS2,hC2,hD7,hD8⟩:=hcut
  rename World=>wa
  obtain⟨R,hR⟩:=Bw (okB B)
  have RM:=AC fun x lv uv (hx:BktV x B lv uv)=>BU B lv uv x R hR HS.out.1 HS.out.2.1 HS.out.2.2 hx
  have CH:=AC fun x lv uv (hx:BktV x B lv uv)=>BN B lv uv x R hR HS.out.1 HS.out.2.1 HS.out.2.2 hx
  have SB:=AC fun x lv uv lx ux (hx:BktV x B lv uv) (hy:BktV x B lx ux)=>Fh B lv uv lx ux x HS.out.2.1 HS.out.2.2 hx hy
  have smd:=Tr HFD.out HS.out
  have SD:=AC fun x lv uv lx ux (hx:BktV x d lv uv) (hy:BktV x d lx ux)=>Fh d lv uv lx ux x smd.2.1 smd.2.2 hx hy
  simp only [bkt] at RM CH SB SD
  obtain⟨E1,e1,E2,e2,b7,v7⟩:=hD7
  obtain⟨E3,e3,E4,e4,b8,v8⟩:=hD8
  have J0:Hid (S4 w wa.drew pw B X (.slice g1 B.L.length g2) (.slice g3 B.U.length g4) (.slice g5 X.P.length g6) (.slice g7 B.L.length g8) (.slice g9 B.U.length g10) p7 p8 (BL d (.slice E1 d.L.length e1) (.slice E2 d.U.length e2) i1 sx k) (BL d (.slice E3 d.L.length e3) (.slice E4 d.U.length e4) i1 sx k)):=AC (S4.on ⟨hS2,b7,b8⟩ (Q.refl wa).drew)
  have CC:=AC (hC2.on (Q.refl wa).drew)
  have D7:=AC (v7.on (Q.refl wa).drew)
  have D8:=AC (v8.on (Q.refl wa).drew)
  clear hS2 hC2 b7 v7 b8 v8 smd hR HS HX HFD DO1 DO2 I3
  simp only [BL] at J0
  cases R with
  | true=>
    simp only [show Fz true=0 from rfl] at CH
    go_upto_region 4 with fail
    refine wp_region_held_drew (S:=fun z=>S4 w z pw B X (.slice g1 B.L.length g2) (.slice g3 B.U.length g4) (.slice g5 X.P.length g6) (.slice g7 B.L.length g8) (.slice g9 B.U.length g10) p7 p8 #[.string d.name,.int .i64 d.st,.slice E1 d.L.length e1,.slice E2 d.U.length e2,.int .u64 (d.last:Nat),.int .u64 (i1:Nat),.string sx,.int .i64 (k:Nat)] #[.string d.name,.int .i64 d.st,.slice E3 d.L.length e3,.slice E4 d.U.length e4,.int .u64 (d.last:Nat),.int .u64 (i1:Nat),.string sx,.int .i64 (k:Nat)]) (by kernel_rfl) J0.out (fun hHeld=>?_)
    obtain⟨z0,hz0⟩:∃ z,z=wa.drew:=⟨_,rfl⟩
    rw [← hz0] at J0 CC D7 D8 ⊢
    clear hz0
    refine tkL (v:=?_) 0 rfl ?_ ?_ (hS:=J0.out)
    rotate_left
    ·(intro wx hSw;skip;go_simp;(try with_reducible rfl))
    refine pg ?_
    refine tkL (v:=?_) 1 rfl ?_ ?_ (hS:=J0.out)
    rotate_left
    ·(intro wx hSw;obtain⟨⟨hz0,hz1,hz2,hz3,hz4,hz5,hz6,hz7⟩,-⟩:=AJ hSw.2.1;go_simp;(try with_reducible rfl))
    refine pg ?_
    refine tkL (v:=?_) 2 rfl ?_ ?_ (hS:=J0.out)
    rotate_left
    ·(intro wx hSw;skip;go_simp;(try with_reducible rfl))
    refine pg ?_
    refine tkL (v:=?_) 3 rfl ?_ ?_ (hS:=J0.out)
    rotate_left
    ·(intro wx hSw;obtain⟨⟨hz0,hz1,hz2,hz3,hz4,hz5,hz6,hz7⟩,-⟩:=AJ hSw.2.2;go_simp;(try with_reducible rfl))
    refine pg ?_
    refine aR [4] ?_
    refine aC rfl (fun K hK=>?_) aN
    go_simp
    go_at_call 14
    refine(SD.out _ _ _ _ _ D7.out D8.out).mono ?_
    rintro e z1 ⟨rfl,q⟩
    have J0:=AC (J0.out.on q)
    have CC:=AC (CC.out.on q)
    have D7:=AC (D7.out.on q)
    have D8:=AC (D8.out.on q)
    clear q
    refine hK.out _ _ J0.out (fun hHeld=>?_)
    clear hK K
    refine pg ?_
    refine tkL (v:=.bool true) 5 rfl ?_ ?_ (hS:=J0.out)
    ·(intro wx hSw;skip;go_simp;(try omega);(try simp [*]);(try omega))
    refine pg ?_
    refine tkL (v:=?_) 6 rfl ?_ ?_ (hS:=J0.out)
    rotate_left
    ·(intro wx hSw;skip;go_simp;(try with_reducible rfl))
    refine pg ?_
    refine tkL (v:=?_) 7 rfl ?_ ?_ (hS:=J0.out)
    rotate_left
    ·(intro wx hSw;obtain⟨⟨hz0,hz1,hz2,hz3,hz4,hz5,hz6,hz7⟩,-⟩:=AJ hSw.2.1;go_simp;(try with_reducible rfl))
    refine pg ?_
    refine tkL (v:=?_) 8 rfl ?_ ?_ (hS:=J0.out)
    rotate_left
    ·(intro wx hSw;skip;go_simp;(try with_reducible rfl))
    refine pg ?_
    refine tkL (v:=?_) 9 rfl ?_ ?_ (hS:=J0.out)
    rotate_left
    ·(intro wx hSw;obtain⟨⟨hz0,hz1,hz2,hz3,hz4,hz5,hz6,hz7⟩,-⟩:=AJ hSw.2.2;go_simp;(try with_reducible rfl))
    refine pg ?_
    refine tkL (v:=.bool true) 10 rfl ?_ ?_ (hS:=J0.out)
    ·(intro wx hSw;skip;go_simp;(try omega);(try simp [*]);(try omega))
    refine pg ?_
    refine tkL (v:=.bool true) 11 rfl ?_ ?_ (hS:=J0.out)
    ·(intro wx hSw;skip;go_simp;(try omega);(try simp [*]);(try omega))
    refine pg ?_
    refine tkL (v:=.bool true) 12 rfl ?_ ?_ (hS:=J0.out)
    ·(intro wx hSw;skip;go_simp;(try omega);(try simp [*]);(try omega))
    refine pg ?_
    refine tkL (v:=?_) 13 rfl ?_ ?_ (hS:=J0.out)
    rotate_left
    ·(intro wx hSw;skip;go_simp;(try with_reducible rfl))
    refine pg ?_
    refine tkL (v:=?_) 14 rfl ?_ ?_ (hS:=J0.out)
    rotate_left
    ·(intro wx hSw;obtain⟨⟨hz0,hz1,hz2,hz3,hz4,hz5,hz6,hz7⟩,-⟩:=AJ hSw.2.1;go_simp;(try with_reducible rfl))
    refine pg ?_
    refine tkL (v:=?_) 15 rfl ?_ ?_ (hS:=J0.out)
    rotate_left
    ·(intro wx hSw;skip;go_simp;(try with_reducible rfl))
    refine pg ?_
    refine tkL (v:=?_) 16 rfl ?_ ?_ (hS:=J0.out)
    rotate_left
    ·(intro wx hSw;obtain⟨⟨hz0,hz1,hz2,hz3,hz4,hz5,hz6,hz7⟩,-⟩:=AJ hSw.2.2;go_simp;(try with_reducible rfl))
    refine pg ?_
    refine tkL (v:=.bool true) 17 rfl ?_ ?_ (hS:=J0.out)
    ·(intro wx hSw;skip;go_simp;(try omega);(try simp [*]);(try omega))
    refine pg ?_
    refine tkL (v:=.bool true) 18 rfl ?_ ?_ (hS:=J0.out)
    ·(intro wx hSw;skip;go_simp;(try omega);(try simp [*]);(try omega))
    refine pg ?_
    refine tkL (v:=.bool true) 19 rfl ?_ ?_ (hS:=J0.out)
    ·(intro wx hSw;skip;go_simp;(try omega);(try simp [*]);(try omega))
    refine pg ?_
    refine tkL (v:=?_) 20 rfl ?_ ?_ (hS:=J0.out)
    rotate_left
    ·(intro wx hSw;skip;go_simp;(try with_reducible rfl))
    refine pg ?_
    refine tkL (v:=?_) 21 rfl ?_ ?_ (hS:=J0.out)
    rotate_left
    ·(intro wx hSw;obtain⟨⟨hz0,hz1,hz2,hz3,hz4,hz5,hz6,hz7⟩,-⟩:=AJ hSw.2.1;go_simp;(try with_reducible rfl))
    refine pg ?_
    refine tkL (v:=?_) 22 rfl ?_ ?_ (hS:=J0.out)
    rotate_left
    ·(intro wx hSw;skip;go_simp;(try with_reducible rfl))
    refine pg ?_
    refine tkL (v:=?_) 23 rfl ?_ ?_ (hS:=J0.out)
    rotate_left
    ·(intro wx hSw;obtain⟨⟨hz0,hz1,hz2,hz3,hz4,hz5,hz6,hz7⟩,-⟩:=AJ hSw.2.2;go_simp;(try with_reducible rfl))
    refine pg ?_
    refine tkL (v:=.bool true) 24 rfl ?_ ?_ (hS:=J0.out)
    ·(intro wx hSw;skip;go_simp;(try omega);(try simp [*]);(try omega))
    refine pg ?_
    refine tkL (v:=.bool true) 25 rfl ?_ ?_ (hS:=J0.out)
    ·(intro wx hSw;skip;go_simp;(try omega);(try simp [*]);(try omega))
    refine pg ?_
    refine tkL (v:=.bool true) 26 rfl ?_ ?_ (hS:=J0.out)
    ·(intro wx hSw;skip;go_simp;(try omega);(try simp [*]);(try omega))
    refine pg ?_
    refine tkL (v:=?_) 27 rfl ?_ ?_ (hS:=J0.out)
    rotate_left
    ·(intro wx hSw;obtain⟨hz0,hz1,hz2,hz3,hz4⟩:=AD hSw.1.1;go_simp;(try with_reducible rfl))
    refine pg ?_
    refine tkL (v:=?_) 30 rfl ?_ ?_ (hS:=J0.out)
    rotate_left
    ·(intro wx hSw;obtain⟨hz0,hz1,hz2,hz3,hz4⟩:=AD hSw.1.1;go_simp;(try with_reducible rfl))
    refine pg ?_
    refine aR [28] ?_
    refine aC rfl (fun K hK=>?_) aN
    go_simp
    go_at_call 15
    refine(CH.out _ _ _ CC.out.1).mono ?_
    rintro e z2 ⟨rfl,q⟩
    have J0:=AC (J0.out.on q)
    have CC:=AC (CC.out.on q)
    have D7:=AC (D7.out.on q)
    have D8:=AC (D8.out.on q)
    clear q
    refine hK.out _ _ J0.out (fun hHeld=>?_)
    clear hK K
    refine pg ?_
    refine tkL (v:=.bool true) 29 rfl ?_ ?_ (hS:=J0.out)
    ·(intro wx hSw;skip;go_simp;(try omega);(try simp [*]);(try omega))
    refine pg ?_
    refine aR [31] ?_
    refine aC rfl (fun K hK=>?_) aN
    go_simp
    go_at_call 16
    refine(RM.out _ _ _ CC.out.1).mono ?_
    rintro e z3 ⟨rfl,q⟩
    have J0:=AC (J0.out.on q)
    have CC:=AC (CC.out.on q)
    have D7:=AC (D7.out.on q)
    have D8:=AC (D8.out.on q)
    clear q
    refine hK.out _ _ J0.out (fun hHeld=>?_)
    clear hK K
    refine pg ?_
    refine tkL (v:=.bool true) 32 rfl ?_ ?_ (hS:=J0.out)
    ·(intro wx hSw;skip;go_simp;(try omega);(try simp [*]);(try omega))
    refine pg ?_
    refine tkL (v:=.bool true) 33 rfl ?_ ?_ (hS:=J0.out)
    ·(intro wx hSw;skip;go_simp;(try omega);(try simp [*]);(try omega))
    refine pg ?_
    refine tkL (v:=.bool true) 34 rfl ?_ ?_ (hS:=J0.out)
    ·(intro wx hSw;skip;go_simp;(try omega);(try simp [*]);(try omega))
    refine pg ?_
    refine tkL (v:=?_) 35 rfl ?_ ?_ (hS:=J0.out)
    rotate_left
    ·(intro wx hSw;obtain⟨hz0,hz1,hz2,hz3,hz4⟩:=AD hSw.1.1;go_simp;(try with_reducible rfl))
    refine pg ?_
    refine tkL (v:=?_) 36 rfl ?_ ?_ (hS:=J0.out)
    rotate_left
    ·(intro wx hSw;obtain⟨hz0,hz1,hz2,hz3,hz4⟩:=AD hSw.1.2.2.1;go_simp;(try with_reducible rfl))
    refine pg ?_
    refine aR [37] ?_
    refine aC rfl (fun K hK=>?_) aN
    go_simp
    go_at_call 14
    refine(SB.out _ _ _ _ _ CC.out.1 CC.out.2.2).mono ?_
    rintro e z4 ⟨rfl,q⟩
    have J0:=AC (J0.out.on q)
    have CC:=AC (CC.out.on q)
    have D7:=AC (D7.out.on q)
    have D8:=AC (D8.out.on q)
    clear q
    refine hK.out _ _ J0.out (fun hHeld=>?_)
    clear hK K
    refine pg ?_
    refine tkL (v:=.bool true) 38 rfl ?_ ?_ (hS:=J0.out)
    ·(intro wx hSw;skip;go_simp;(try omega);(try simp [*]);(try omega))
    refine pg ?_
    refine tkL (v:=.bool true) 39 rfl ?_ ?_ (hS:=J0.out)
    ·(intro wx hSw;skip;go_simp;(try omega);(try simp [*]);(try omega))
    refine pg ?_
    refine aR [40] ?_
    refine aC rfl (fun K hK=>?_) aN
    go_simp
    go_at_call 17
    refine(AW.out _).mono ?_
    rintro e z5 ⟨rfl,q⟩
    have J0:=AC (J0.out.on q)
    have CC:=AC (CC.out.on q)
    have D7:=AC (D7.out.on q)
    have D8:=AC (D8.out.on q)
    clear q
    refine hK.out _ _ J0.out (fun hHeld=>?_)
    clear hK K
    refine pg ?_
    refine tkL (v:=.bool true) 41 rfl ?_ ?_ (hS:=J0.out)
    ·(intro wx hSw;skip;go_simp;(try omega);(try simp [*]);(try omega))
    refine pg ?_
    refine tkL (v:=?_) 42 rfl ?_ ?_ (hS:=J0.out)
    rotate_left
    ·(intro wx hSw;skip;go_simp;(try with_reducible rfl))
    refine pg ?_
    refine wpAnyH_done (by kernel_rfl) ?_ _
    have nq:=J0.out.1.2.2.2.1
    go_wp2_with fail
    go_ret
    exact⟨rfl,nq⟩
  | false=>
    simp only [show Fz false=1 from rfl] at CH
    go_upto_region 4 with fail
    refine wp_region_held_drew (S:=fun z=>S4 w z pw B X (.slice g1 B.L.length g2) (.slice g3 B.U.length g4) (.slice g5 X.P.length g6) (.slice g7 B.L.length g8) (.slice g9 B.U.length g10) p7 p8 #[.string d.name,.int .i64 d.st,.slice E1 d.L.length e1,.slice E2 d.U.length e2,.int .u64 (d.last:Nat),.int .u64 (i1:Nat),.string sx,.int .i64 (k:Nat)] #[.string d.name,.int .i64 d.st,.slice E3 d.L.length e3,.slice E4 d.U.length e4,.int .u64 (d.last:Nat),.int .u64 (i1:Nat),.string sx,.int .i64 (k:Nat)]) (by kernel_rfl) J0.out (fun hHeld=>?_)
    obtain⟨z0,hz0⟩:∃ z,z=wa.drew:=⟨_,rfl⟩
    rw [← hz0] at J0 CC D7 D8 ⊢
    clear hz0
    refine tkL (v:=?_) 0 rfl ?_ ?_ (hS:=J0.out)
    rotate_left
    ·(intro wx hSw;skip;go_simp;(try with_reducible rfl))
    refine pg ?_
    refine tkL (v:=?_) 1 rfl ?_ ?_ (hS:=J0.out)
    rotate_left
    ·(intro wx hSw;obtain⟨⟨hz0,hz1,hz2,hz3,hz4,hz5,hz6,hz7⟩,-⟩:=AJ hSw.2.1;go_simp;(try with_reducible rfl))
    refine pg ?_
    refine tkL (v:=?_) 2 rfl ?_ ?_ (hS:=J0.out)
    rotate_left
    ·(intro wx hSw;skip;go_simp;(try with_reducible rfl))
    refine pg ?_
    refine tkL (v:=?_) 3 rfl ?_ ?_ (hS:=J0.out)
    rotate_left
    ·(intro wx hSw;obtain⟨⟨hz0,hz1,hz2,hz3,hz4,hz5,hz6,hz7⟩,-⟩:=AJ hSw.2.2;go_simp;(try with_reducible rfl))
    refine pg ?_
    refine aR [4] ?_
    refine aC rfl (fun K hK=>?_) aN
    go_simp
    go_at_call 14
    refine(SD.out _ _ _ _ _ D7.out D8.out).mono ?_
    rintro e z1 ⟨rfl,q⟩
    have J0:=AC (J0.out.on q)
    have CC:=AC (CC.out.on q)
    have D7:=AC (D7.out.on q)
    have D8:=AC (D8.out.on q)
    clear q
    refine hK.out _ _ J0.out (fun hHeld=>?_)
    clear hK K
    refine pg ?_
    refine tkL (v:=.bool true) 5 rfl ?_ ?_ (hS:=J0.out)
    ·(intro wx hSw;skip;go_simp;(try omega);(try simp [*]);(try omega))
    refine pg ?_
    refine tkL (v:=?_) 6 rfl ?_ ?_ (hS:=J0.out)
    rotate_left
    ·(intro wx hSw;skip;go_simp;(try with_reducible rfl))
    refine pg ?_
    refine tkL (v:=?_) 7 rfl ?_ ?_ (hS:=J0.out)
    rotate_left
    ·(intro wx hSw;obtain⟨⟨hz0,hz1,hz2,hz3,hz4,hz5,hz6,hz7⟩,-⟩:=AJ hSw.2.1;go_simp;(try with_reducible rfl))
    refine pg ?_
    refine tkL (v:=?_) 8 rfl ?_ ?_ (hS:=J0.out)
    rotate_left
    ·(intro wx hSw;skip;go_simp;(try with_reducible rfl))
    refine pg ?_
    refine tkL (v:=?_) 9 rfl ?_ ?_ (hS:=J0.out)
    rotate_left
    ·(intro wx hSw;obtain⟨⟨hz0,hz1,hz2,hz3,hz4,hz5,hz6,hz7⟩,-⟩:=AJ hSw.2.2;go_simp;(try with_reducible rfl))
    refine pg ?_
    refine tkL (v:=.bool true) 10 rfl ?_ ?_ (hS:=J0.out)
    ·(intro wx hSw;skip;go_simp;(try omega);(try simp [*]);(try omega))
    refine pg ?_
    refine tkL (v:=.bool true) 11 rfl ?_ ?_ (hS:=J0.out)
    ·(intro wx hSw;skip;go_simp;(try omega);(try simp [*]);(try omega))
    refine pg ?_
    refine tkL (v:=.bool true) 12 rfl ?_ ?_ (hS:=J0.out)
    ·(intro wx hSw;skip;go_simp;(try omega);(try simp [*]);(try omega))
    refine pg ?_
    refine tkL (v:=?_) 13 rfl ?_ ?_ (hS:=J0.out)
    rotate_left
    ·(intro wx hSw;skip;go_simp;(try with_reducible rfl))
    refine pg ?_
    refine tkL (v:=?_) 14 rfl ?_ ?_ (hS:=J0.out)
    rotate_left
    ·(intro wx hSw;obtain⟨⟨hz0,hz1,hz2,hz3,hz4,hz5,hz6,hz7⟩,-⟩:=AJ hSw.2.1;go_simp;(try with_reducible rfl))
    refine pg ?_
    refine tkL (v:=?_) 15 rfl ?_ ?_ (hS:=J0.out)
    rotate_left
    ·(intro wx hSw;skip;go_simp;(try with_reducible rfl))
    refine pg ?_
    refine tkL (v:=?_) 16 rfl ?_ ?_ (hS:=J0.out)
    rotate_left
    ·(intro wx hSw;obtain⟨⟨hz0,hz1,hz2,hz3,hz4,hz5,hz6,hz7⟩,-⟩:=AJ hSw.2.2;go_simp;(try with_reducible rfl))
    refine pg ?_
    refine tkL (v:=.bool true) 17 rfl ?_ ?_ (hS:=J0.out)
    ·(intro wx hSw;skip;go_simp;(try omega);(try simp [*]);(try omega))
    refine pg ?_
    refine tkL (v:=.bool true) 18 rfl ?_ ?_ (hS:=J0.out)
    ·(intro wx hSw;skip;go_simp;(try omega);(try simp [*]);(try omega))
    refine pg ?_
    refine tkL (v:=.bool true) 19 rfl ?_ ?_ (hS:=J0.out)
    ·(intro wx hSw;skip;go_simp;(try omega);(try simp [*]);(try omega))
    refine pg ?_
    refine tkL (v:=?_) 20 rfl ?_ ?_ (hS:=J0.out)
    rotate_left
    ·(intro wx hSw;skip;go_simp;(try with_reducible rfl))
    refine pg ?_
    refine tkL (v:=?_) 21 rfl ?_ ?_ (hS:=J0.out)
    rotate_left
    ·(intro wx hSw;obtain⟨⟨hz0,hz1,hz2,hz3,hz4,hz5,hz6,hz7⟩,-⟩:=AJ hSw.2.1;go_simp;(try with_reducible rfl))
    refine pg ?_
    refine tkL (v:=?_) 22 rfl ?_ ?_ (hS:=J0.out)
    rotate_left
    ·(intro wx hSw;skip;go_simp;(try with_reducible rfl))
    refine pg ?_
    refine tkL (v:=?_) 23 rfl ?_ ?_ (hS:=J0.out)
    rotate_left
    ·(intro wx hSw;obtain⟨⟨hz0,hz1,hz2,hz3,hz4,hz5,hz6,hz7⟩,-⟩:=AJ hSw.2.2;go_simp;(try with_reducible rfl))
    refine pg ?_
    refine tkL (v:=.bool true) 24 rfl ?_ ?_ (hS:=J0.out)
    ·(intro wx hSw;skip;go_simp;(try omega);(try simp [*]);(try omega))
    refine pg ?_
    refine tkL (v:=.bool true) 25 rfl ?_ ?_ (hS:=J0.out)
    ·(intro wx hSw;skip;go_simp;(try omega);(try simp [*]);(try omega))
    refine pg ?_
    refine tkL (v:=.bool true) 26 rfl ?_ ?_ (hS:=J0.out)
    ·(intro wx hSw;skip;go_simp;(try omega);(try simp [*]);(try omega))
    refine pg ?_
    refine tkL (v:=?_) 27 rfl ?_ ?_ (hS:=J0.out)
    rotate_left
    ·(intro wx hSw;obtain⟨hz0,hz1,hz2,hz3,hz4⟩:=AD hSw.1.1;go_simp;(try with_reducible rfl))
    refine pg ?_
    refine tkL (v:=?_) 30 rfl ?_ ?_ (hS:=J0.out)
    rotate_left
    ·(intro wx hSw;obtain⟨hz0,hz1,hz2,hz3,hz4⟩:=AD hSw.1.1;go_simp;(try with_reducible rfl))
    refine pg ?_
    refine aR [28] ?_
    refine aC rfl (fun K hK=>?_) aN
    go_simp
    go_at_call 15
    refine(CH.out _ _ _ CC.out.1).mono ?_
    rintro e z2 ⟨rfl,q⟩
    have J0:=AC (J0.out.on q)
    have CC:=AC (CC.out.on q)
    have D7:=AC (D7.out.on q)
    have D8:=AC (D8.out.on q)
    clear q
    refine hK.out _ _ J0.out (fun hHeld=>?_)
    clear hK K
    refine pg ?_
    refine tkL (v:=.bool false) 29 rfl ?_ ?_ (hS:=J0.out)
    ·(intro wx hSw;skip;go_simp;(try omega);(try simp [*]);(try omega))
    refine pg ?_
    refine aR [31] ?_
    refine aC rfl (fun K hK=>?_) aN
    go_simp
    go_at_call 16
    refine(RM.out _ _ _ CC.out.1).mono ?_
    rintro e z3 ⟨rfl,q⟩
    have J0:=AC (J0.out.on q)
    have CC:=AC (CC.out.on q)
    have D7:=AC (D7.out.on q)
    have D8:=AC (D8.out.on q)
    clear q
    refine hK.out _ _ J0.out (fun hHeld=>?_)
    clear hK K
    refine pg ?_
    refine tkL (v:=.bool true) 32 rfl ?_ ?_ (hS:=J0.out)
    ·(intro wx hSw;skip;go_simp;(try omega);(try simp [*]);(try omega))
    refine pg ?_
    refine tkL (v:=.bool true) 33 rfl ?_ ?_ (hS:=J0.out)
    ·(intro wx hSw;skip;go_simp;(try omega);(try simp [*]);(try omega))
    refine pg ?_
    refine tkL (v:=.bool true) 34 rfl ?_ ?_ (hS:=J0.out)
    ·(intro wx hSw;skip;go_simp;(try omega);(try simp [*]);(try omega))
    refine pg ?_
    refine tkL (v:=?_) 35 rfl ?_ ?_ (hS:=J0.out)
    rotate_left
    ·(intro wx hSw;obtain⟨hz0,hz1,hz2,hz3,hz4⟩:=AD hSw.1.1;go_simp;(try with_reducible rfl))
    refine pg ?_
    refine tkL (v:=?_) 36 rfl ?_ ?_ (hS:=J0.out)
    rotate_left
    ·(intro wx hSw;obtain⟨hz0,hz1,hz2,hz3,hz4⟩:=AD hSw.1.2.2.1;go_simp;(try with_reducible rfl))
    refine pg ?_
    refine aR [37] ?_
    refine aC rfl (fun K hK=>?_) aN
    go_simp
    go_at_call 14
    refine(SB.out _ _ _ _ _ CC.out.1 CC.out.2.2).mono ?_
    rintro e z4 ⟨rfl,q⟩
    have J0:=AC (J0.out.on q)
    have CC:=AC (CC.out.on q)
    have D7:=AC (D7.out.on q)
    have D8:=AC (D8.out.on q)
    clear q
    refine hK.out _ _ J0.out (fun hHeld=>?_)
    clear hK K
    refine pg ?_
    refine tkL (v:=.bool true) 38 rfl ?_ ?_ (hS:=J0.out)
    ·(intro wx hSw;skip;go_simp;(try omega);(try simp [*]);(try omega))
    refine pg ?_
    refine tkL (v:=.bool true) 39 rfl ?_ ?_ (hS:=J0.out)
    ·(intro wx hSw;skip;go_simp;(try omega);(try simp [*]);(try omega))
    refine pg ?_
    refine aR [40] ?_
    refine aC rfl (fun K hK=>?_) aN
    go_simp
    go_at_call 17
    refine(AW.out _).mono ?_
    rintro e z5 ⟨rfl,q⟩
    have J0:=AC (J0.out.on q)
    have CC:=AC (CC.out.on q)
    have D7:=AC (D7.out.on q)
    have D8:=AC (D8.out.on q)
    clear q
    refine hK.out _ _ J0.out (fun hHeld=>?_)
    clear hK K
    refine pg ?_
    refine tkL (v:=.bool true) 41 rfl ?_ ?_ (hS:=J0.out)
    ·(intro wx hSw;skip;go_simp;(try omega);(try simp [*]);(try omega))
    refine pg ?_
    refine tkL (v:=?_) 42 rfl ?_ ?_ (hS:=J0.out)
    rotate_left
    ·(intro wx hSw;skip;go_simp;(try with_reducible rfl))
    refine pg ?_
    refine wpAnyH_done (by kernel_rfl) ?_ _
    have nq:=J0.out.1.2.2.2.1
    go_wp2_with fail
    go_ret
    exact⟨rfl,nq⟩
set_option maxRecDepth 100000 in
theorem lifted(os:Os)(started:os.Started)(H:Type)(enc:TypeId×Value→H):
  ReturnsInHanded {} Tryz.checked os 3 .any (Rows.bucketDoesSpec.pre6 enc Tryz.prog Tryz.f3 Rows.bucketDoesRow.domain false) (Rows.bucketDoesSpec.post enc Tryz.prog Tryz.f3 false true false false):=by
 refine returnsInHanded_of_change (C:=Tryz.checked) own started (by kernel_rfl) Tryz.func3
  (ChangeSpec.witness6 (enc:=enc) (C:=Tryz.checked) false ⟨#[],#[.agg #[.string ByteArray.empty,.int .i64 0,.slice none 0 0,.slice none 0 0,.int .u64 0],.agg #[.int .u8 0,.string ByteArray.empty,.string ByteArray.empty,.int .u64 0,.int .i64 0,.int .i64 0,.slice none 0 0]],[]⟩ 8 (by kernel_rfl) (by kernel_rfl) (by kernel_rfl) (by kernel_rfl)) ?_
 intro W base args ds gs before hval0 hW hcnd _
 have hval:∀ (j:Nat) t v,Tryz.f3.params[j]?=some t→args[j]?=some v→Value.okWide Tryz.prog W .any base t v:=hval0
 have hW':=hW
 obtain⟨p,q,hA0,hV,rfl,hfz,hnd⟩:=hW
 have hA:DataW.TrodAll enc Tryz.prog W 0 (fun _=>true) true Tryz.f3.params.toList args.toList ds p:=hA0
 rw [Tryz.params3] at hA hval
 obtain⟨v0,vs0,d0,ds0,p0,q0,hargs,rfl,rfl,h0,r0⟩:=trodAll_cons hA
 obtain⟨v1,vs1,d1,ds1,p1,q1,rfl,rfl,rfl,h1,r1⟩:=trodAll_cons r0
 obtain⟨rfl,rfl,rfl⟩:=trodAll_nil r1
 obtain rfl:args=#[v0,v1]:=by cases args;simp_all
 obtain⟨rfl,rfl⟩:=trodVars_none hV
 clear hA0 hval0
 simp only [List.append_nil] at hW'
 have hlt:∀ x∈p0++p1,x.block<W.heap.size:=fun x hx=>by simpa using hW'.lt x (by simpa using hx)
 obtain⟨b0,lv0,uv0,rfl,t0⟩:=PM (hval 0 26 v0 rfl rfl) h0
 obtain⟨x1,y1,rfl,u1,t1⟩:=PN (hval 1 29 v1 rfl rfl) h1
 refine(walk b0 lv0 uv0 x1 y1 W t0 u1 t1).mono fun e W' ⟨he,bel⟩=>?_
 subst he
 refine⟨_,rfl,_,_,_,[],_,[],hW',trodAll_mk1 (shut_bool Tryz.underlying4 _),(trodAll_cons_mk (Below.trod T7 (by kernel_rfl) (of_decide_eq_true (by kernel_rfl)) h0 bel (fun x hx=>hlt x (by simp [hx]))) (trodAll_cons_mk (Below.trod T7 (by kernel_rfl) (of_decide_eq_true (by kernel_rfl)) h1 bel (fun x hx=>hlt x (by simp [hx]))) trodAll_mk0)),rfl,Below.frame bel _,fun h=>by cases h⟩
theorem over:Rows.bucketDoesRow.holds Tryz.pinned (OpenSpec.ofChange Rows.bucketDoesSpec):=
 OpenClaim.holds_of_wide 3 Tryz.f3 rfl rfl rfl rfl rfl rfl rfl ⟨rfl,rfl,rfl,rfl,rfl⟩ rfl rfl rfl rfl rfl (by kernel_rfl) Tryz.func3 (by kernel_rfl)
  (of_decide_eq_true (by kernel_rfl)) (by unfold Func.isWrapper;first | (rw [if_pos (by decide +kernel)];kernel_rfl) | (rw [if_neg (by decide +kernel)];exact⟨rfl,rfl⟩))
  (fun os started H enc _=>lifted os started H enc)
theorem proved:Rows.BucketDoesSaid:=over
#print axioms proved
end Go.Proofs.YtjjlbbfhmpbneaaGreat.bucketDoes
