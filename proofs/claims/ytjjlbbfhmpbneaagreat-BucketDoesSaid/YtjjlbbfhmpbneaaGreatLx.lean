/-
  Contract of awake, the chapter's examples.
-/
import Derived.Test.YtjjlbbfhmpbneaaGreatLq
import Derived.Test.YtjjlbbfhmpbneaaGreatLw
import Derived.Deep.DeepCutAuto
namespace Go.Proofs.YtjjlbbfhmpbneaaGreat
open Lib renaming hid → AC
set_option maxHeartbeats 16000000
set_option maxRecDepth 100000
set_option linter.unusedVariables false
set_option linter.unusedSimpArgs false
section
open Go.ChangeShapes Go.WideShapes Go.ChangeAt Go.RowKit Go.Shelf
def BoxB(w:World)(P:Nat)(b:Bkt):Prop:=∃ A c A' c',Bx w P 26 (bcl b (.slice A b.L.length c) (.slice A' b.U.length c'))∧BktV w b (.slice A b.L.length c) (.slice A' b.U.length c')
theorem BoxB.on{w w':World}{P:Nat}{b:Bkt}(h:BoxB w P b)(q:Q w w'):BoxB w' P b:=by
 obtain⟨A,c,A',c',h,k⟩:=h
 exact⟨A,c,A',c',h.on q,k.on q⟩
theorem BoxB.lt{w:World}{P:Nat}{b:Bkt}(h:BoxB w P b):P<w.heap.size:=by
 obtain⟨A,c,A',c',h,k⟩:=h
 exact h.lt
theorem BoxB.calm{w:World}{P:Nat}{b:Bkt}(h:BoxB w P b):Calm w P:=by
 obtain⟨A,c,A',c',h,k⟩:=h
 exact AI h
theorem BoxB.kp{w w':World}{P p:Nat}{b:Bkt}(h:BoxB w P b)(c:Calm w p)(g:Kp p w w')(hn:P≠p):BoxB w' P b:=by
 obtain⟨A,c1,A',c',h,k⟩:=h
 exact⟨A,c1,A',c',g.bx h hn,k.kp c g⟩
theorem BoxB.store{w:World}{P:Nat}{b d:Bkt}{A A':Option Addr}{c c':Nat}(h:BoxB w P b)(k:BktV w d (.slice A d.L.length c) (.slice A' d.U.length c')):
  BoxB (((((w.setCell ⟨P,0,none⟩ (.string d.name)).setCell ⟨P,1,none⟩ (.int .i64 d.st)).setCell ⟨P,2,none⟩ (.slice A d.L.length c)).setCell ⟨P,3,none⟩ (.slice A' d.U.length c')).setCell ⟨P,4,none⟩ (.int .u64 (d.last:Nat))) P d∧
  Kp P w (((((w.setCell ⟨P,0,none⟩ (.string d.name)).setCell ⟨P,1,none⟩ (.int .i64 d.st)).setCell ⟨P,2,none⟩ (.slice A d.L.length c)).setCell ⟨P,3,none⟩ (.slice A' d.U.length c')).setCell ⟨P,4,none⟩ (.int .u64 (d.last:Nat))):=by
 have cm:=h.calm
 obtain⟨A0,c0,A1,c1,h,-⟩:=h
 have g:=(((((Kp.of (p:=P) (Q.refl w)).set 0 (.string d.name)).set 1 (.int .i64 d.st)).set 2 (.slice A d.L.length c)).set 3 (.slice A' d.U.length c')).set 4 (.int .u64 (d.last:Nat))
 exact⟨⟨A,c,A',c',AM h,k.kp cm g⟩,g⟩
theorem BoxB.new{w:World}{d:Bkt}{A A':Option Addr}{c c':Nat}(k:BktV w d (.slice A d.L.length c) (.slice A' d.U.length c')):
  BoxB (w.alloc (.cells #[.string d.name,.int .i64 d.st,.slice A d.L.length c,.slice A' d.U.length c',.int .u64 (d.last:Nat)] 26)) w.heap.size d:=
 ⟨A,c,A',c',Bx.new _ _ _,k.on ((Q.refl w).alloc _)⟩
theorem Ao{b:Bkt}(h:okB b):b.name.size≤1000∧smE b.L∧smL b.U:=by
 refine⟨?_,BV (Dl.1 h).1⟩
 have:=h.1
 simp only [Al,BD,Bool.and_eq_true,decide_eq_true_eq] at this
 omega
open awk9
theorem O9(w:World)(x:Pce)(h:okC x):Pces (w.alloc (.cells #[.int .i64 x.n,.int .u32 (x.tag:Nat)] 67)) (w.alloc (.cells #[.int .i64 x.n,.int .u32 (x.tag:Nat)] 67)).heap.size (.slice (some ⟨w.heap.size,0,none⟩) 1 1) [x]:=by
 refine⟨_,_,rfl,Nat.le_refl _,(by simp),fun y hy=>?_,fun k hk=>?_⟩
 ·obtain rfl:y=x:=by simpa using hy
  exact h
 ·have k0:k=0:=by simpa using hk
  subst k0
  refine⟨_,rfl,by simp,?_,?_⟩
  ·simp [Addr.add]
  ·simp [Addr.add]
theorem LZ(w:World):Calls Tryz.prog 17 #[] w fun e w'=>e=.returned (.bool true)∧Q w w':=by
 have C1:Hid (∀ w lv uv,BktV w b0 lv uv→Calls Tryz.prog 28 #[bkt b0 lv uv,.string ⟨#[97]⟩,.string ⟨#[120]⟩,.int .i64 0] w fun e w'=>∃ A c A' c',e=.returned (.tuple #[.agg #[.string b1.name,.int .i64 b1.st,.slice A b1.L.length c,.slice A' b1.U.length c',.int .u64 (b1.last:Nat)],.int .u64 0,.int .i64 0])∧BktV w' b1 (.slice A b1.L.length c) (.slice A' b1.U.length c')∧Q w w'):=AC fun w lv uv hv=>EY b0 lv uv w yA yX 0 b1 0 0 noS 0 f1 (Ao RY).1 (Ao RY).2.1 (Ao RY).2.2 (by decide) (by decide) (by decide) (by decide) hv
 simp only [bkt] at C1
 have C2:Hid (∀ w lv uv,BktV w b1 lv uv→Calls Tryz.prog 28 #[bkt b1 lv uv,.string ⟨#[97]⟩,.string ⟨#[121]⟩,.int .i64 0] w fun e w'=>∃ A c A' c',e=.returned (.tuple #[.agg #[.string b2.name,.int .i64 b2.st,.slice A b2.L.length c,.slice A' b2.U.length c',.int .u64 (b2.last:Nat)],.int .u64 0,.int .i64 0])∧BktV w' b2 (.slice A b2.L.length c) (.slice A' b2.U.length c')∧Q w w'):=AC fun w lv uv hv=>EY b1 lv uv w yA yY 0 b2 0 0 noS 0 f2 (Ao Sk).1 (Ao Sk).2.1 (Ao Sk).2.2 (by decide) (by decide) (by decide) (by decide) hv
 simp only [bkt] at C2
 have C3:Hid (∀ w lv uv,BktV w b2 lv uv→Calls Tryz.prog 32 #[bkt b2 lv uv,.string ⟨#[97]⟩,.int .i64 0] w fun e w'=>∃ A c A' c',e=.returned (.tuple #[.agg #[.string b0.name,.int .i64 b0.st,.slice A b0.L.length c,.slice A' b0.U.length c',.int .u64 (b0.last:Nat)],.int .u64 0,.int .i64 0])∧BktV w' b0 (.slice A b0.L.length c) (.slice A' b0.U.length c')∧Q w w'):=AC fun w lv uv hv=>DJ b2 lv uv w yA 0 b0 0 0 noS 0 f3 (Ao N9).1 (Ao N9).2.1 (Ao N9).2.2 (by decide) (by decide) (by decide) hv
 simp only [bkt] at C3
 have C4:Hid (∀ w lv uv,BktV w b2 lv uv→Calls Tryz.prog 19 #[bkt b2 lv uv,.int .i64 1] w fun e w'=>∃ A c A' c',e=.returned (.tuple #[.agg #[.string b3.name,.int .i64 b3.st,.slice A b3.L.length c,.slice A' b3.U.length c',.int .u64 (b3.last:Nat)],.int .i64 0])∧BktV w' b3 (.slice A b3.L.length c) (.slice A' b3.U.length c')∧Q w w'):=AC fun w lv uv hv=>H8 b2 lv uv w 1 b3 0 0 noS 0 f4 (Ao N9).1 (Ao N9).2.1 (Ao N9).2.2 hv
 simp only [bkt] at C4
 have C5:Hid (∀ w lv uv,BktV w b3 lv uv→Calls Tryz.prog 32 #[bkt b3 lv uv,.string ⟨#[97]⟩,.int .i64 1] w fun e w'=>∃ A c A' c',e=.returned (.tuple #[.agg #[.string bC.name,.int .i64 bC.st,.slice A bC.L.length c,.slice A' bC.U.length c',.int .u64 (bC.last:Nat)],.int .u64 1,.int .i64 0])∧BktV w' bC (.slice A bC.L.length c) (.slice A' bC.U.length c')∧Q w w'):=AC fun w lv uv hv=>DJ b3 lv uv w yA 1 bC 1 0 noS 0 f5 (Ao Ld).1 (Ao Ld).2.1 (Ao Ld).2.2 (by decide) (by decide) (by decide) hv
 simp only [bkt] at C5
 have C6:Hid (∀ w lv uv,BktV w bC lv uv→Calls Tryz.prog 33 #[bkt bC lv uv,.string ⟨#[97]⟩,.int .u64 1] w fun e w'=>∃ A c A' c',e=.returned (.tuple #[.agg #[.string bD.name,.int .i64 bD.st,.slice A bD.L.length c,.slice A' bD.U.length c',.int .u64 (bD.last:Nat)],.int .i64 0])∧BktV w' bD (.slice A bD.L.length c) (.slice A' bD.U.length c')∧Q w w'):=AC fun w lv uv hv=>IA bC lv uv w yA 1 bD 0 0 noS 0 f6 (Ao N8).1 (Ao N8).2.1 (Ao N8).2.2 (by decide) hv
 simp only [bkt] at C6
 have C7:Hid (∀ w lv uv,BktV w b3 lv uv→Calls Tryz.prog 23 #[bkt b3 lv uv,.string ⟨#[107]⟩] w fun e w'=>∃ A c A' c',e=.returned (.tuple #[.agg #[.string u1.name,.int .i64 u1.st,.slice A u1.L.length c,.slice A' u1.U.length c',.int .u64 (u1.last:Nat)],.int .u64 1,.int .i64 0])∧BktV w' u1 (.slice A u1.L.length c) (.slice A' u1.U.length c')∧Q w w'):=AC fun w lv uv hv=>F4 b3 lv uv w yK u1 1 0 noS 0 f7 (Ao Ld).1 (Ao Ld).2.1 (Ao Ld).2.2 (by decide) hv
 simp only [bkt] at C7
 have C8:Hid (∀ w lv uv,BktV w u1 lv uv→Calls Tryz.prog 24 #[bkt u1 lv uv,.int .u64 1,.agg #[.int .i64 1,.string ⟨#[119,104,111,108,101]⟩]] w fun e w'=>∃ A c A' c',e=.returned (.tuple #[.agg #[.string u2.name,.int .i64 u2.st,.slice A u2.L.length c,.slice A' u2.U.length c',.int .u64 (u2.last:Nat)],.int .u32 (qW:Nat),.int .i64 0])∧BktV w' u2 (.slice A u2.L.length c) (.slice A' u2.U.length c')∧Q w w'):=AC fun w lv uv hv=>Jx u1 lv uv w 1 1 yW u2 0 qW noS 0 f8 (Ao Kb).1 (Ao Kb).2.1 (Ao Kb).2.2 ⟨by decide,by decide,by decide⟩ hv
 simp only [bkt] at C8
 have G1:Hid (∀ w lv uv,BktV w bC lv uv→Calls Tryz.prog 27 #[bkt bC lv uv,.string ⟨#[97]⟩] w fun e w'=>e=.returned (.tuple #[.agg #[.int .u64 1,.string ⟨#[]⟩,.bool true,.int .i64 1],.int .i64 13])∧Q w w'):=AC fun w lv uv hv=>by
  have h:=Gq bC lv uv w yA N8 ka (Ao N8).1 (Ao N8).2.1 (Ao N8).2.2 (by decide) hv
  rw [g1] at h
  exact h
 simp only [bkt] at G1
 have G2:Hid (∀ w lv uv,BktV w bD lv uv→Calls Tryz.prog 27 #[bkt bD lv uv,.string ⟨#[97]⟩] w fun e w'=>e=.returned (.tuple #[.agg #[.int .u64 0,.string ⟨#[121]⟩,.bool false,.int .i64 0],.int .i64 0])∧Q w w'):=AC fun w lv uv hv=>by
  have h:=Gq bD lv uv w yA Tb ka (Ao Tb).1 (Ao Tb).2.1 (Ao Tb).2.2 (by decide) hv
  rw [g2] at h
  exact h
 simp only [bkt] at G2
 have G3:Hid (∀ w lv uv,BktV w u3 lv uv→Calls Tryz.prog 27 #[bkt u3 lv uv,.string ⟨#[107]⟩] w fun e w'=>e=.returned (.tuple #[.agg #[.int .u64 2,.string ⟨#[119,104,111,108,101]⟩,.bool false,.int .i64 2],.int .i64 0])∧Q w w'):=AC fun w lv uv hv=>by
  have h:=Gq u3 lv uv w yK PO kk (Ao PO).1 (Ao PO).2.1 (Ao PO).2.2 (by decide) hv
  rw [g3] at h
  exact h
 simp only [bkt] at G3
 have C0:=AC fun w=>Qa ⟨#[98,111,120]⟩ w (by decide) (by decide)
 simp only [bkt] at C0
 have C9:Hid (∀ w lv uv P,BktV w u2 lv uv→Pces w w.heap.size (.slice (some ⟨P,0,none⟩) 1 1) [⟨1,qW⟩]→Calls Tryz.prog 26 #[bkt u2 lv uv,.int .u64 1,.slice (some ⟨P,0,none⟩) 1 1,.int .i64 2] w fun e w'=>∃ A c A' c',e=.returned (.tuple #[.agg #[.string u3.name,.int .i64 u3.st,.slice A u3.L.length c,.slice A' u3.U.length c',.int .u64 (u3.last:Nat)],.int .u64 2,.string (mk (DA [qW])),.int .i64 0])∧BktV w' u3 (.slice A u3.L.length c) (.slice A' u3.U.length c')∧Q w w'):=AC fun w lv uv P hv hz=>F3 u2 lv uv w 1 [⟨1,qW⟩] (some ⟨P,0,none⟩) 1 2 u3 2 0 (mk (DA [qW])) 0 f9 (Ao Ii).1 (Ao Ii).2.1 (Ao Ii).2.2 (by decide) (by decide) (by decide) hz hv
 simp only [bkt] at C9
 have EM:Hid (∀ w lv uv,BktV w b0 lv uv→Calls Tryz.prog 53 #[bkt b0 lv uv] w fun e w'=>e=.returned (.bool true)∧Q w w'):=AC fun w lv uv hv=>LU b0 lv uv w true (by decide) (Ao RY).2.1 (Ao RY).2.2 hv
 simp only [bkt] at EM
 have B0V:BktV w b0 (.slice none 0 0) (.slice none 0 0):=⟨Ents.nil _ _,Upls.nil _ _⟩
 go_enter Tryz.func17,Tryz.ntmps17
 have C:=AC (C0.out w)
 go_wp2_with fail
 refine(C.out).mono ?_
 rintro e y0 ⟨rfl,q0⟩
 clear C
 have hq:=q0
 have nt1:BoxB (y0.alloc (.cells #[.string ⟨#[98,111,120]⟩,.int .i64 0,.slice none 0 0,.slice none 0 0,.int .u64 0] 26)) y0.heap.size b0:=BoxB.new (d:=b0) (B0V.on q0)
 have rt1:w.heap.size≤y0.heap.size:=hq.size
 have qa:Q y0 (y0.alloc (.cells #[.string ⟨#[98,111,120]⟩,.int .i64 0,.slice none 0 0,.slice none 0 0,.int .u64 0] 26)):=(Q.refl _).alloc _
 have nq:=hq.trans qa
 go_upto_region 2 with fail
 have K0:=AC (And.intro nt1 (nq))
 obtain⟨x0,hx0⟩:∃ x,x=(y0.alloc (.cells #[.string ⟨#[98,111,120]⟩,.int .i64 0,.slice none 0 0,.slice none 0 0,.int .u64 0] 26)):=⟨_,rfl⟩
 rw [← hx0] at K0 ⊢
 clear hx0 nq hq nt1
 clear qa
 obtain⟨a1,c1,a1',c1',hb1,hv1⟩:=K0.out.1
 obtain⟨k0,k1,k2,k3,k4⟩:=AD hb1
 have C:=AC (C1.out _ _ _ hv1)
 clear hb1 hv1
 go_wp2_with fail
 refine(C.out).mono ?_
 rintro e y1 ⟨A,c,A',c',rfl,v1,q1⟩
 clear C k0 k1 k2 k3 k4
 have ht1:=K0.out.1.on q1
 have hq:=K0.out.2.trans q1
 obtain⟨g1,g2,g3,g4,hbb,hvv⟩:=ht1
 obtain⟨k0,k1,k2,k3,k4⟩:=AD hbb
 obtain⟨f0,f1,f2,f3,f4⟩:=AF hbb
 have hh:BoxB y1 y0.heap.size b0:=⟨g1,g2,g3,g4,hbb,hvv⟩
 obtain⟨nt1,gk⟩:=hh.store v1
 have cm:=hh.calm
 have nq:=gk.q hq (by omega)
 go_upto_region 3 with fail
 have K1:=AC (And.intro nt1 (nq))
 obtain⟨x1,hx1⟩:∃ x,x=(((((y1.setCell ⟨y0.heap.size,0,none⟩ (.string b1.name)).setCell ⟨y0.heap.size,1,none⟩ (.int .i64 b1.st)).setCell ⟨y0.heap.size,2,none⟩ (.slice A b1.L.length c)).setCell ⟨y0.heap.size,3,none⟩ (.slice A' b1.U.length c')).setCell ⟨y0.heap.size,4,none⟩ (.int .u64 (b1.last:Nat))):=⟨_,rfl⟩
 rw [← hx1] at K1 ⊢
 clear hx1 nq hq nt1
 clear k0 k1 k2 k3 k4 f0 f1 f2 f3 f4 gk cm hh hbb hvv v1
 obtain⟨a2,c2,a2',c2',hb2,hv2⟩:=K1.out.1
 obtain⟨k0,k1,k2,k3,k4⟩:=AD hb2
 have C:=AC (C2.out _ _ _ hv2)
 clear hb2 hv2
 go_wp2_with fail
 refine(C.out).mono ?_
 rintro e y2 ⟨A,c,A',c',rfl,v2,q2⟩
 clear C k0 k1 k2 k3 k4
 have ht1:=K1.out.1.on q2
 have hq:=K1.out.2.trans q2
 obtain⟨g1,g2,g3,g4,hbb,hvv⟩:=ht1
 obtain⟨k0,k1,k2,k3,k4⟩:=AD hbb
 obtain⟨f0,f1,f2,f3,f4⟩:=AF hbb
 have hh:BoxB y2 y0.heap.size b1:=⟨g1,g2,g3,g4,hbb,hvv⟩
 obtain⟨nt1,gk⟩:=hh.store v2
 have cm:=hh.calm
 have nq:=gk.q hq (by omega)
 go_upto_region 4 with fail
 have K2:=AC (And.intro nt1 (nq))
 obtain⟨x2,hx2⟩:∃ x,x=(((((y2.setCell ⟨y0.heap.size,0,none⟩ (.string b2.name)).setCell ⟨y0.heap.size,1,none⟩ (.int .i64 b2.st)).setCell ⟨y0.heap.size,2,none⟩ (.slice A b2.L.length c)).setCell ⟨y0.heap.size,3,none⟩ (.slice A' b2.U.length c')).setCell ⟨y0.heap.size,4,none⟩ (.int .u64 (b2.last:Nat))):=⟨_,rfl⟩
 rw [← hx2] at K2 ⊢
 clear hx2 nq hq nt1
 clear k0 k1 k2 k3 k4 f0 f1 f2 f3 f4 gk cm hh hbb hvv v2
 obtain⟨a3,c3,a3',c3',hb3,hv3⟩:=K2.out.1
 obtain⟨k0,k1,k2,k3,k4⟩:=AD hb3
 have C:=AC (C3.out _ _ _ hv3)
 clear hb3 hv3
 go_wp2_with fail
 refine(C.out).mono ?_
 rintro e y3 ⟨A,c,A',c',rfl,v3,q3⟩
 clear C k0 k1 k2 k3 k4
 have ht1:=K2.out.1.on q3
 have hq:=K2.out.2.trans q3
 have nt7:BoxB (y3.alloc (.cells #[.string b0.name,.int .i64 b0.st,.slice A b0.L.length c,.slice A' b0.U.length c',.int .u64 (b0.last:Nat)] 26)) y3.heap.size b0:=BoxB.new v3
 have rt7:w.heap.size≤y3.heap.size:=hq.size
 have qa:Q y3 (y3.alloc (.cells #[.string b0.name,.int .i64 b0.st,.slice A b0.L.length c,.slice A' b0.U.length c',.int .u64 (b0.last:Nat)] 26)):=(Q.refl _).alloc _
 have nt1:=ht1.on qa
 have lt1:=ht1.lt
 have nq:=hq.trans qa
 go_upto_region 5 with fail
 have K3:=AC (And.intro nt1 (And.intro nt7 (nq)))
 obtain⟨x3,hx3⟩:∃ x,x=(y3.alloc (.cells #[.string b0.name,.int .i64 b0.st,.slice A b0.L.length c,.slice A' b0.U.length c',.int .u64 (b0.last:Nat)] 26)):=⟨_,rfl⟩
 rw [← hx3] at K3 ⊢
 clear hx3 nq hq nt1 nt7
 clear qa ht1 v3
 obtain⟨a4,c4,a4',c4',hb4,hv4⟩:=K3.out.1
 obtain⟨k0,k1,k2,k3,k4⟩:=AD hb4
 have C:=AC (C4.out _ _ _ hv4)
 clear hb4 hv4
 go_wp2_with fail
 refine(C.out).mono ?_
 rintro e y4 ⟨A,c,A',c',rfl,v4,q4⟩
 clear C k0 k1 k2 k3 k4
 have ht1:=K3.out.1.on q4
 have ht7:=K3.out.2.1.on q4
 have hq:=K3.out.2.2.trans q4
 obtain⟨g1,g2,g3,g4,hbb,hvv⟩:=ht1
 obtain⟨k0,k1,k2,k3,k4⟩:=AD hbb
 obtain⟨f0,f1,f2,f3,f4⟩:=AF hbb
 have hh:BoxB y4 y0.heap.size b2:=⟨g1,g2,g3,g4,hbb,hvv⟩
 obtain⟨nt1,gk⟩:=hh.store v4
 have cm:=hh.calm
 have nt7:=ht7.kp cm gk (by omega)
 have nq:=gk.q hq (by omega)
 go_upto_region 6 with fail
 have K4:=AC (And.intro nt1 (And.intro nt7 (nq)))
 obtain⟨x4,hx4⟩:∃ x,x=(((((y4.setCell ⟨y0.heap.size,0,none⟩ (.string b3.name)).setCell ⟨y0.heap.size,1,none⟩ (.int .i64 b3.st)).setCell ⟨y0.heap.size,2,none⟩ (.slice A b3.L.length c)).setCell ⟨y0.heap.size,3,none⟩ (.slice A' b3.U.length c')).setCell ⟨y0.heap.size,4,none⟩ (.int .u64 (b3.last:Nat))):=⟨_,rfl⟩
 rw [← hx4] at K4 ⊢
 clear hx4 nq hq nt1 nt7
 clear k0 k1 k2 k3 k4 f0 f1 f2 f3 f4 gk cm hh hbb hvv v4 ht7
 obtain⟨a5,c5,a5',c5',hb5,hv5⟩:=K4.out.1
 obtain⟨k0,k1,k2,k3,k4⟩:=AD hb5
 have C:=AC (C5.out _ _ _ hv5)
 clear hb5 hv5
 go_wp2_with fail
 refine(C.out).mono ?_
 rintro e y5 ⟨A,c,A',c',rfl,v5,q5⟩
 clear C k0 k1 k2 k3 k4
 have ht1:=K4.out.1.on q5
 have ht7:=K4.out.2.1.on q5
 have hq:=K4.out.2.2.trans q5
 have nt11:BoxB (y5.alloc (.cells #[.string bC.name,.int .i64 bC.st,.slice A bC.L.length c,.slice A' bC.U.length c',.int .u64 (bC.last:Nat)] 26)) y5.heap.size bC:=BoxB.new v5
 have rt11:w.heap.size≤y5.heap.size:=hq.size
 have qa:Q y5 (y5.alloc (.cells #[.string bC.name,.int .i64 bC.st,.slice A bC.L.length c,.slice A' bC.U.length c',.int .u64 (bC.last:Nat)] 26)):=(Q.refl _).alloc _
 have nt1:=ht1.on qa
 have lt1:=ht1.lt
 have nt7:=ht7.on qa
 have lt7:=ht7.lt
 have nq:=hq.trans qa
 go_upto_region 7 with fail
 have K5:=AC (And.intro nt1 (And.intro nt7 (And.intro nt11 (nq))))
 obtain⟨x5,hx5⟩:∃ x,x=(y5.alloc (.cells #[.string bC.name,.int .i64 bC.st,.slice A bC.L.length c,.slice A' bC.U.length c',.int .u64 (bC.last:Nat)] 26)):=⟨_,rfl⟩
 rw [← hx5] at K5 ⊢
 clear hx5 nq hq nt1 nt7 nt11
 clear qa ht1 ht7 v5
 obtain⟨a6,c6,a6',c6',hb6,hv6⟩:=K5.out.2.2.1
 obtain⟨k0,k1,k2,k3,k4⟩:=AD hb6
 have C:=AC (G1.out _ _ _ hv6)
 clear hb6 hv6
 go_wp2_with fail
 refine(C.out).mono ?_
 rintro e y6 ⟨rfl,q6⟩
 clear C k0 k1 k2 k3 k4
 have ht1:=K5.out.1.on q6
 have ht7:=K5.out.2.1.on q6
 have ht11:=K5.out.2.2.1.on q6
 have hq:=K5.out.2.2.2.trans q6
 have rt14:w.heap.size≤y6.heap.size:=hq.size
 have qa:Q y6 (y6.alloc (.cells #[.int .u64 1,.string ⟨#[]⟩,.bool true,.int .i64 1] 49)):=(Q.refl _).alloc _
 have nt1:=ht1.on qa
 have lt1:=ht1.lt
 have nt7:=ht7.on qa
 have lt7:=ht7.lt
 have nt11:=ht11.on qa
 have lt11:=ht11.lt
 have nq:=hq.trans qa
 go_upto_region 8 with fail
 have K6:=AC (And.intro nt1 (And.intro nt7 (And.intro nt11 (nq))))
 obtain⟨x6,hx6⟩:∃ x,x=(y6.alloc (.cells #[.int .u64 1,.string ⟨#[]⟩,.bool true,.int .i64 1] 49)):=⟨_,rfl⟩
 rw [← hx6] at K6 ⊢
 clear hx6 nq hq nt1 nt7 nt11
 clear qa ht1 ht7 ht11
 obtain⟨a7,c7,a7',c7',hb7,hv7⟩:=K6.out.2.2.1
 obtain⟨k0,k1,k2,k3,k4⟩:=AD hb7
 have C:=AC (C6.out _ _ _ hv7)
 clear hb7 hv7
 go_wp2_with fail
 refine(C.out).mono ?_
 rintro e y7 ⟨A,c,A',c',rfl,v7,q7⟩
 clear C k0 k1 k2 k3 k4
 have ht1:=K6.out.1.on q7
 have ht7:=K6.out.2.1.on q7
 have ht11:=K6.out.2.2.1.on q7
 have hq:=K6.out.2.2.2.trans q7
 have nt16:BoxB (y7.alloc (.cells #[.string bD.name,.int .i64 bD.st,.slice A bD.L.length c,.slice A' bD.U.length c',.int .u64 (bD.last:Nat)] 26)) y7.heap.size bD:=BoxB.new v7
 have rt16:w.heap.size≤y7.heap.size:=hq.size
 have qa:Q y7 (y7.alloc (.cells #[.string bD.name,.int .i64 bD.st,.slice A bD.L.length c,.slice A' bD.U.length c',.int .u64 (bD.last:Nat)] 26)):=(Q.refl _).alloc _
 have nt1:=ht1.on qa
 have lt1:=ht1.lt
 have nt7:=ht7.on qa
 have lt7:=ht7.lt
 have nt11:=ht11.on qa
 have lt11:=ht11.lt
 have nq:=hq.trans qa
 go_upto_region 9 with fail
 have K7:=AC (And.intro nt1 (And.intro nt7 (And.intro nt11 (And.intro nt16 (nq)))))
 obtain⟨x7,hx7⟩:∃ x,x=(y7.alloc (.cells #[.string bD.name,.int .i64 bD.st,.slice A bD.L.length c,.slice A' bD.U.length c',.int .u64 (bD.last:Nat)] 26)):=⟨_,rfl⟩
 rw [← hx7] at K7 ⊢
 clear hx7 nq hq nt1 nt7 nt11 nt16
 clear qa ht1 ht7 ht11 v7
 obtain⟨a8,c8,a8',c8',hb8,hv8⟩:=K7.out.2.2.2.1
 obtain⟨k0,k1,k2,k3,k4⟩:=AD hb8
 have C:=AC (G2.out _ _ _ hv8)
 clear hb8 hv8
 go_wp2_with fail
 refine(C.out).mono ?_
 rintro e y8 ⟨rfl,q8⟩
 clear C k0 k1 k2 k3 k4
 have ht1:=K7.out.1.on q8
 have ht7:=K7.out.2.1.on q8
 have ht11:=K7.out.2.2.1.on q8
 have ht16:=K7.out.2.2.2.1.on q8
 have hq:=K7.out.2.2.2.2.trans q8
 have nt18:Bx (y8.alloc (.cells #[.int .u64 0,.string ⟨#[121]⟩,.bool false,.int .i64 0] 49)) y8.heap.size 49 #[.int .u64 0,.string ⟨#[121]⟩,.bool false,.int .i64 0]:=Bx.new _ _ _
 have rt18:w.heap.size≤y8.heap.size:=hq.size
 have qa:Q y8 (y8.alloc (.cells #[.int .u64 0,.string ⟨#[121]⟩,.bool false,.int .i64 0] 49)):=(Q.refl _).alloc _
 have nt1:=ht1.on qa
 have lt1:=ht1.lt
 have nt7:=ht7.on qa
 have lt7:=ht7.lt
 have nt11:=ht11.on qa
 have lt11:=ht11.lt
 have nt16:=ht16.on qa
 have lt16:=ht16.lt
 have nq:=hq.trans qa
 go_upto_region 10 with fail
 have K8:=AC (And.intro nt1 (And.intro nt7 (And.intro nt11 (And.intro nt16 (And.intro nt18 (nq))))))
 obtain⟨x8,hx8⟩:∃ x,x=(y8.alloc (.cells #[.int .u64 0,.string ⟨#[121]⟩,.bool false,.int .i64 0] 49)):=⟨_,rfl⟩
 rw [← hx8] at K8 ⊢
 clear hx8 nq hq nt1 nt7 nt11 nt16 nt18
 clear qa ht1 ht7 ht11 ht16
 obtain⟨a9,c9,a9',c9',hb9,hv9⟩:=K8.out.1
 obtain⟨k0,k1,k2,k3,k4⟩:=AD hb9
 have C:=AC (C7.out _ _ _ hv9)
 clear hb9 hv9
 go_wp2_with fail
 refine(C.out).mono ?_
 rintro e y9 ⟨A,c,A',c',rfl,v9,q9⟩
 clear C k0 k1 k2 k3 k4
 have ht1:=K8.out.1.on q9
 have ht7:=K8.out.2.1.on q9
 have ht11:=K8.out.2.2.1.on q9
 have ht16:=K8.out.2.2.2.1.on q9
 have ht18:=K8.out.2.2.2.2.1.on q9
 have hq:=K8.out.2.2.2.2.2.trans q9
 have nt20:BoxB (y9.alloc (.cells #[.string u1.name,.int .i64 u1.st,.slice A u1.L.length c,.slice A' u1.U.length c',.int .u64 (u1.last:Nat)] 26)) y9.heap.size u1:=BoxB.new v9
 have rt20:w.heap.size≤y9.heap.size:=hq.size
 have qa:Q y9 (y9.alloc (.cells #[.string u1.name,.int .i64 u1.st,.slice A u1.L.length c,.slice A' u1.U.length c',.int .u64 (u1.last:Nat)] 26)):=(Q.refl _).alloc _
 have nt1:=ht1.on qa
 have lt1:=ht1.lt
 have nt7:=ht7.on qa
 have lt7:=ht7.lt
 have nt11:=ht11.on qa
 have lt11:=ht11.lt
 have nt16:=ht16.on qa
 have lt16:=ht16.lt
 have nt18:=ht18.on qa
 have lt18:=ht18.lt
 have nq:=hq.trans qa
 go_upto_region 11 with fail
 have K9:=AC (And.intro nt1 (And.intro nt7 (And.intro nt11 (And.intro nt16 (And.intro nt18 (And.intro nt20 (nq)))))))
 obtain⟨x9,hx9⟩:∃ x,x=(y9.alloc (.cells #[.string u1.name,.int .i64 u1.st,.slice A u1.L.length c,.slice A' u1.U.length c',.int .u64 (u1.last:Nat)] 26)):=⟨_,rfl⟩
 rw [← hx9] at K9 ⊢
 clear hx9 nq hq nt1 nt7 nt11 nt16 nt18 nt20
 clear qa ht1 ht7 ht11 ht16 ht18 v9
 obtain⟨a10,c10,a10',c10',hb10,hv10⟩:=K9.out.2.2.2.2.2.1
 obtain⟨k0,k1,k2,k3,k4⟩:=AD hb10
 have C:=AC (C8.out _ _ _ hv10)
 clear hb10 hv10
 go_wp2_with fail
 refine(C.out).mono ?_
 rintro e y10 ⟨A,c,A',c',rfl,v10,q10⟩
 clear C k0 k1 k2 k3 k4
 have ht1:=K9.out.1.on q10
 have ht7:=K9.out.2.1.on q10
 have ht11:=K9.out.2.2.1.on q10
 have ht16:=K9.out.2.2.2.1.on q10
 have ht18:=K9.out.2.2.2.2.1.on q10
 have ht20:=K9.out.2.2.2.2.2.1.on q10
 have hq:=K9.out.2.2.2.2.2.2.trans q10
 obtain⟨g1,g2,g3,g4,hbb,hvv⟩:=ht20
 obtain⟨k0,k1,k2,k3,k4⟩:=AD hbb
 obtain⟨f0,f1,f2,f3,f4⟩:=AF hbb
 have hh:BoxB y10 y9.heap.size u1:=⟨g1,g2,g3,g4,hbb,hvv⟩
 obtain⟨nt20,gk⟩:=hh.store v10
 have cm:=hh.calm
 have nt1:=ht1.kp cm gk (by omega)
 have nt7:=ht7.kp cm gk (by omega)
 have nt11:=ht11.kp cm gk (by omega)
 have nt16:=ht16.kp cm gk (by omega)
 have nt18:=gk.bx ht18 (by omega)
 have nq:=gk.q hq (by omega)
 go_upto_region 12 with fail
 have K10:=AC (And.intro nt1 (And.intro nt7 (And.intro nt11 (And.intro nt16 (And.intro nt18 (And.intro nt20 (nq)))))))
 obtain⟨x10,hx10⟩:∃ x,x=(((((y10.setCell ⟨y9.heap.size,0,none⟩ (.string u2.name)).setCell ⟨y9.heap.size,1,none⟩ (.int .i64 u2.st)).setCell ⟨y9.heap.size,2,none⟩ (.slice A u2.L.length c)).setCell ⟨y9.heap.size,3,none⟩ (.slice A' u2.U.length c')).setCell ⟨y9.heap.size,4,none⟩ (.int .u64 (u2.last:Nat))):=⟨_,rfl⟩
 rw [← hx10] at K10 ⊢
 clear hx10 nq hq nt1 nt7 nt11 nt16 nt18 nt20
 clear k0 k1 k2 k3 k4 f0 f1 f2 f3 f4 gk cm hh hbb hvv v10 ht1 ht7 ht11 ht16 ht18
 obtain⟨a11,c11,a11',c11',hb11,hv11⟩:=K10.out.2.2.2.2.2.1
 obtain⟨k0,k1,k2,k3,k4⟩:=AD hb11
 have hz9:Pces (x10.alloc (.cells #[.int .i64 1,.int .u32 (qW:Nat)] 67)) (x10.alloc (.cells #[.int .i64 1,.int .u32 (qW:Nat)] 67)).heap.size (.slice (some ⟨x10.heap.size,0,none⟩) 1 1) [⟨1,qW⟩]:=O9 x10 ⟨1,qW⟩ ⟨by decide,by decide,Hz _⟩
 have qp:=(Q.refl x10).alloc (.cells #[.int .i64 1,.int .u32 (qW:Nat)] 67)
 have C:=AC (C9.out _ _ _ _ (hv11.on qp) hz9)
 clear hb11 hv11
 go_wp2_with fail
 refine(C.out).mono ?_
 rintro e y11 ⟨A,c,A',c',rfl,v11,q11⟩
 have q11:=qp.trans q11
 clear qp hz9
 clear C k0 k1 k2 k3 k4
 have ht1:=K10.out.1.on q11
 have ht7:=K10.out.2.1.on q11
 have ht11:=K10.out.2.2.1.on q11
 have ht16:=K10.out.2.2.2.1.on q11
 have ht18:=K10.out.2.2.2.2.1.on q11
 have ht20:=K10.out.2.2.2.2.2.1.on q11
 have hq:=K10.out.2.2.2.2.2.2.trans q11
 obtain⟨g1,g2,g3,g4,hbb,hvv⟩:=ht20
 obtain⟨k0,k1,k2,k3,k4⟩:=AD hbb
 obtain⟨f0,f1,f2,f3,f4⟩:=AF hbb
 have hh:BoxB y11 y9.heap.size u2:=⟨g1,g2,g3,g4,hbb,hvv⟩
 obtain⟨nt20,gk⟩:=hh.store v11
 have cm:=hh.calm
 have nt1:=ht1.kp cm gk (by omega)
 have nt7:=ht7.kp cm gk (by omega)
 have nt11:=ht11.kp cm gk (by omega)
 have nt16:=ht16.kp cm gk (by omega)
 have nt18:=gk.bx ht18 (by omega)
 have nq:=gk.q hq (by omega)
 go_upto_region 13 with fail
 have K11:=AC (And.intro nt1 (And.intro nt7 (And.intro nt11 (And.intro nt16 (And.intro nt18 (And.intro nt20 (nq)))))))
 obtain⟨x11,hx11⟩:∃ x,x=(((((y11.setCell ⟨y9.heap.size,0,none⟩ (.string u3.name)).setCell ⟨y9.heap.size,1,none⟩ (.int .i64 u3.st)).setCell ⟨y9.heap.size,2,none⟩ (.slice A u3.L.length c)).setCell ⟨y9.heap.size,3,none⟩ (.slice A' u3.U.length c')).setCell ⟨y9.heap.size,4,none⟩ (.int .u64 (u3.last:Nat))):=⟨_,rfl⟩
 rw [← hx11] at K11 ⊢
 clear hx11 nq hq nt1 nt7 nt11 nt16 nt18 nt20
 clear k0 k1 k2 k3 k4 f0 f1 f2 f3 f4 gk cm hh hbb hvv v11 ht1 ht7 ht11 ht16 ht18
 obtain⟨a12,c12,a12',c12',hb12,hv12⟩:=K11.out.2.2.2.2.2.1
 obtain⟨k0,k1,k2,k3,k4⟩:=AD hb12
 have C:=AC (G3.out _ _ _ hv12)
 clear hb12 hv12
 go_wp2_with fail
 refine(C.out).mono ?_
 rintro e y12 ⟨rfl,q12⟩
 clear C k0 k1 k2 k3 k4
 have ht1:=K11.out.1.on q12
 have ht7:=K11.out.2.1.on q12
 have ht11:=K11.out.2.2.1.on q12
 have ht16:=K11.out.2.2.2.1.on q12
 have ht18:=K11.out.2.2.2.2.1.on q12
 have ht20:=K11.out.2.2.2.2.2.1.on q12
 have hq:=K11.out.2.2.2.2.2.2.trans q12
 have nt28:Bx (y12.alloc (.cells #[.int .u64 2,.string ⟨#[119,104,111,108,101]⟩,.bool false,.int .i64 2] 49)) y12.heap.size 49 #[.int .u64 2,.string ⟨#[119,104,111,108,101]⟩,.bool false,.int .i64 2]:=Bx.new _ _ _
 have rt28:w.heap.size≤y12.heap.size:=hq.size
 have qa:Q y12 (y12.alloc (.cells #[.int .u64 2,.string ⟨#[119,104,111,108,101]⟩,.bool false,.int .i64 2] 49)):=(Q.refl _).alloc _
 have nt1:=ht1.on qa
 have lt1:=ht1.lt
 have nt7:=ht7.on qa
 have lt7:=ht7.lt
 have nt11:=ht11.on qa
 have lt11:=ht11.lt
 have nt16:=ht16.on qa
 have lt16:=ht16.lt
 have nt18:=ht18.on qa
 have lt18:=ht18.lt
 have nt20:=ht20.on qa
 have lt20:=ht20.lt
 have nq:=hq.trans qa
 go_upto_region 14 with fail
 have K12:=AC (And.intro nt1 (And.intro nt7 (And.intro nt11 (And.intro nt16 (And.intro nt18 (And.intro nt20 (And.intro nt28 (nq))))))))
 obtain⟨x12,hx12⟩:∃ x,x=(y12.alloc (.cells #[.int .u64 2,.string ⟨#[119,104,111,108,101]⟩,.bool false,.int .i64 2] 49)):=⟨_,rfl⟩
 rw [← hx12] at K12 ⊢
 clear hx12 nq hq nt1 nt7 nt11 nt16 nt18 nt20 nt28
 clear qa ht1 ht7 ht11 ht16 ht18 ht20
 obtain⟨g1,g2,g3,g4,hbb,hvv⟩:=K12.out.2.1
 obtain⟨k0,k1,k2,k3,k4⟩:=AD hbb
 have C:=AC (EM.out _ _ _ hvv)
 clear hbb hvv
 go_wp2_with fail
 refine(C.out).mono ?_
 rintro e z ⟨rfl,qz⟩
 have hy:=(Jw (K12.out.2.2.2.2.1.on qz)).1.2.1
 have hw:=(Jw (K12.out.2.2.2.2.2.2.1.on qz)).1.2.1
 have nq:=K12.out.2.2.2.2.2.2.2.trans qz
 clear k0 k1 k2 k3 k4
 go_wp2
 go_ret
 exact⟨rfl,nq⟩
end
end Go.Proofs.YtjjlbbfhmpbneaaGreat
