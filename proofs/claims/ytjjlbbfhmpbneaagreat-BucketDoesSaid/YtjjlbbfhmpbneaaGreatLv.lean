/-
  Contract of the program's change of a bucket, way by way.
-/
import Derived.Test.YtjjlbbfhmpbneaaGreatLu
import Derived.Deep.DeepCutAuto
import Derived.Laws.ResultCell
namespace Go.Proofs.YtjjlbbfhmpbneaaGreat
open Lib renaming hid → AC
set_option maxHeartbeats 16000000
set_option maxRecDepth 100000
set_option linter.unusedVariables false
set_option linter.unusedSimpArgs false
section
open Go.ChangeShapes Go.WideShapes Go.ChangeAt Go.RowKit Go.Shelf
theorem LM(b:Bkt)(lv uv:Value)(w:World)(g:Nat)(caps:Array Value)(eg:∀ args w,(callFunc g args).run Tryz.prog w=.ok (.enter g args) w)(hn:b.name.size≤1000)(hs:smE b.L)(hu:smL b.U)(hv:BktV w b lv uv)(hR:Chk (okB b) false):
  Calls Tryz.prog 54 #[bkt b lv uv,.func (.func g) #[] caps] w fun e w'=>∃ A c A' c',e=.returned (.tuple #[.agg (wcl b A c A' c' 0 0 noS),.int .i64 1])∧BktV w' b (.slice A b.L.length c) (.slice A' b.U.length c')∧Q w w':=by
 have hmf:=@HMF
 obtain⟨A0,c0,rfl⟩:=hv.1.form
 obtain⟨B0,d0,rfl⟩:=hv.2.form
 have q0:Q w (((w.alloc (.cells (bcl b (.slice A0 b.L.length c0) (.slice B0 b.U.length d0)) 26)).alloc (.cells #[.string ⟨#[]⟩,.int .i64 0,.slice none 0 0,.slice none 0 0,.int .u64 0,.int .u64 0,.int .u32 0,.string ⟨#[]⟩] 109)).alloc (.cells #[.int .i64 0] 32)):=(((Q.refl w).alloc _).alloc _).alloc _
 have Z:=AC (((Bx.new w 26 (bcl b (.slice A0 b.L.length c0) (.slice B0 b.U.length d0))).alloc (.cells #[.string ⟨#[]⟩,.int .i64 0,.slice none 0 0,.slice none 0 0,.int .u64 0,.int .u64 0,.int .u32 0,.string ⟨#[]⟩] 109)).alloc (.cells #[.int .i64 0] 32))
 have Y0:=(Bx.new (w.alloc (.cells (bcl b (.slice A0 b.L.length c0) (.slice B0 b.U.length d0)) 26)) 109 #[.string ⟨#[]⟩,.int .i64 0,.slice none 0 0,.slice none 0 0,.int .u64 0,.int .u64 0,.int .u32 0,.string ⟨#[]⟩]).alloc (.cells #[.int .i64 0] 32)
 have X0:=Bx.new ((w.alloc (.cells (bcl b (.slice A0 b.L.length c0) (.slice B0 b.U.length d0)) 26)).alloc (.cells #[.string ⟨#[]⟩,.int .i64 0,.slice none 0 0,.slice none 0 0,.int .u64 0,.int .u64 0,.int .u32 0,.string ⟨#[]⟩] 109)) 32 #[.int .i64 0]
 simp only [World.size_alloc] at Y0 X0
 have Y:=AC Y0
 have X:=AC X0
 have AP:=AC (Cy b (.slice A0 b.L.length c0) (.slice B0 b.U.length d0) (((w.alloc (.cells (bcl b (.slice A0 b.L.length c0) (.slice B0 b.U.length d0)) 26)).alloc (.cells #[.string ⟨#[]⟩,.int .i64 0,.slice none 0 0,.slice none 0 0,.int .u64 0,.int .u64 0,.int .u32 0,.string ⟨#[]⟩] 109)).alloc (.cells #[.int .i64 0] 32)) hs hu (hv.on q0))
 have CK:=AC fun d (q:Q w d)=>BN b (.slice A0 b.L.length c0) (.slice B0 b.U.length d0) d false hR hn hs hu (hv.on q)
 clear hs hu hv Y0 X0
 rw [bkt] at AP CK
 rw [bkt]
 go_enter_defers Tryz.func54,Tryz.ntmps54
 go_wp2_with fail
 refine(AP.out).mono ?_
 rintro e w1 ⟨A1,c1,A2,c2,rfl,v1,q1⟩
 have s1:w.heap.size+1+1+1≤w1.heap.size:=by have:=q1.size;simpa using this
 have z1:=Z.out.on q1
 have y1:=Y.out.on q1
 have x1:=X.out.on q1
 have V1:=AC v1
 have cy:=AC (show Calm w1 (w.heap.size+1) from⟨_,_,y1,rfl⟩)
 obtain⟨k0,k1,k2,k3,k4⟩:=AD z1
 obtain⟨⟨a0,a1,a2,a3,a4,a5,a6,a7⟩,f0,f1,f2,f3,f4,f5,f6,f7⟩:=bx8 y1
 have XX:=AC x1
 have ZZ:=AC z1
 have YY:=AC y1
 clear x1 v1 z1 y1
 rw [bkt]
 go_upto_region 2 with fail
 obtain⟨wa,hwa⟩:∃ x,x=(((((w1.setCell ⟨w.heap.size+1,0,none⟩ (.string b.name)).setCell ⟨w.heap.size+1,1,none⟩ (.int .i64 b.st)).setCell ⟨w.heap.size+1,2,none⟩ (.slice A1 b.L.length c1)).setCell ⟨w.heap.size+1,3,none⟩ (.slice A2 b.U.length c2)).setCell ⟨w.heap.size+1,4,none⟩ (.int .u64 (b.last:Nat))):=⟨_,rfl⟩
 rw [← hwa]
 have b0:Bx _ (w.heap.size+1) 109 #[.string b.name,.int .i64 0,.slice none 0 0,.slice none 0 0,.int .u64 0,.int .u64 0,.int .u32 0,.string ⟨#[]⟩]:=YY.out.set 0 (.string b.name)
 have b1:Bx _ (w.heap.size+1) 109 #[.string b.name,.int .i64 b.st,.slice none 0 0,.slice none 0 0,.int .u64 0,.int .u64 0,.int .u32 0,.string ⟨#[]⟩]:=b0.set 1 (.int .i64 b.st)
 have b2:Bx _ (w.heap.size+1) 109 #[.string b.name,.int .i64 b.st,.slice A1 b.L.length c1,.slice none 0 0,.int .u64 0,.int .u64 0,.int .u32 0,.string ⟨#[]⟩]:=b1.set 2 (.slice A1 b.L.length c1)
 have b3:Bx _ (w.heap.size+1) 109 #[.string b.name,.int .i64 b.st,.slice A1 b.L.length c1,.slice A2 b.U.length c2,.int .u64 0,.int .u64 0,.int .u32 0,.string ⟨#[]⟩]:=b2.set 3 (.slice A2 b.U.length c2)
 have b4:Bx _ (w.heap.size+1) 109 #[.string b.name,.int .i64 b.st,.slice A1 b.L.length c1,.slice A2 b.U.length c2,.int .u64 (b.last:Nat),.int .u64 0,.int .u32 0,.string ⟨#[]⟩]:=b3.set 4 (.int .u64 (b.last:Nat))
 have ga:Kp (w.heap.size+1) w1 wa:=by rw [hwa];exact(((((Kp.of (Q.refl w1)).set 0 _).set 1 _).set 2 _).set 3 _).set 4 _
 have ya:Bx wa (w.heap.size+1) 109 (wcl b A1 c1 A2 c2 0 0 noS):=by rw [hwa];exact b4
 have za:=ga.bx ZZ.out (by omega)
 have xa:=ga.bx XX.out (by omega)
 have va:=V1.out.kp cy.out ga
 have qa:=ga.q (q0.trans q1) (by omega)
 have sa:w.heap.size+1+1+1≤wa.heap.size:=Nat.le_trans s1 ga.size
 clear hwa b0 b1 b2 b3 b4 ga ZZ XX YY V1 cy k0 k1 k2 k3 k4 a0 a1 a2 a3 a4 a5 a6 a7 f0 f1 f2 f3 f4 f5 f6 f7 q1 s1 Z Y X AP
 have qd:Q wa (wa.alloc (.cells #[.string b.name,.int .i64 b.st,.slice A1 b.L.length c1,.slice A2 b.U.length c2,.int .u64 (b.last:Nat),.int .u64 0,.int .u32 0,.string noS] 109)):=(Q.refl wa).alloc _
 have bd:Hid (Bx (wa.alloc (.cells #[.string b.name,.int .i64 b.st,.slice A1 b.L.length c1,.slice A2 b.U.length c2,.int .u64 (b.last:Nat),.int .u64 0,.int .u32 0,.string noS] 109)) wa.heap.size 109 (wcl b A1 c1 A2 c2 0 0 noS)):=AC (Bx.new wa 109 (wcl b A1 c1 A2 c2 0 0 noS))
 obtain⟨e0,e1,e2,e3,e4,e5,e6,e7⟩:=(AO ya).1
 obtain⟨k0,k1,k2,k3,k4⟩:=AD (za.on qd)
 have KA:=AC (And.intro ya (And.intro xa (And.intro va qa)))
 clear ya za xa va
 go_wp2_with fail
 refine(CK.out _ (qa.trans qd)).mono ?_
 rintro e w3 ⟨rfl,q3⟩
 have b3:=bd.out.on q3
 have q3:=qd.trans q3
 have y3:=KA.out.1.on q3
 have x3:=KA.out.2.1.on q3
 have v3:=KA.out.2.2.1.on q3
 have qz:=KA.out.2.2.2.trans q3
 obtain⟨⟨e0,e1,e2,e3,e4,e5,e6,e7⟩,f0,f1,f2,f3,f4,f5,f6,f7⟩:=AO y3
 have m0:w3.cell? ⟨w.heap.size+1+1,0,none⟩=some (.int .i64 0):=by rw [x3.cell];rfl
 have m1:=x3.frozen 0
 have K3:=AC (And.intro y3 (And.intro x3 (And.intro b3 (And.intro v3 qz))))
 clear KA bd y3 x3 b3 v3 qz qa k0 k1 k2 k3 k4
 go_wp2
 have g8:=G0 (b:=b) (A1:=A1) (A2:=A2) (c1:=c1) (c2:=c2) (n:=0) (t:=0) (s:=noS) K3.out.1
 have cm:=Ap K3.out.1
 have gE:=g8.2.trans (Kp.of (p:=w.heap.size+1) (Q.refl _))
 refine Gd _ _ _ _ _ _ 1 b A1 A2 c1 c2 0 0 noS _ _ _ _ _ _ _ _ rfl rfl ((g8.2.bx K3.out.2.1 (by omega)).set 0 _) (by decide) ((g8.2.bx K3.out.2.2.1 (by omega)).other (by omega) _ _) (g8.1.other (by omega) _ _) (by omega) (by omega) (fun w' h1 h2=>?_)
 have cE:Calm _ (w.heap.size+1+1):=⟨_,_,g8.2.bx K3.out.2.1 (by omega),rfl⟩
 have v4:=(K3.out.2.2.2.1.kp cm g8.2).kp cE (Ad _ _ 0 (.int .i64 1))
 have v5:=v4.kp (Ap (g8.1.other (by omega) _ _)) h2
 exact⟨A1,c1,A2,c2,rfl,v5,h2.q ((Kp.of (p:=w.heap.size+1+1) (Q.refl _)).set 0 _ |>.q (g8.2.q K3.out.2.2.2.2 (by omega)) (by omega)) (by omega)⟩
theorem LI(b:Bkt)(lv uv:Value)(w:World)(g:Nat)(caps:Array Value)(eg:∀ args w,(callFunc g args).run Tryz.prog w=.ok (.enter g args) w)(hn:b.name.size≤1000)(hs:smE b.L)(hu:smL b.U)(hv:BktV w b lv uv)(hR:Chk (okB b) true)(d:Bkt)(n t:Nat)(s:ByteArray)(k:Nat)(hk:k≠0)(p1:∀ w1 p,w.heap.size≤p→Q w w1→Wk w1 p b 0 0 noS→Calls Tryz.prog g (#[.pointer (some ⟨p,0,none⟩)]++caps) w1 fun e w'=>e=.returned (.int .i64 (k:Nat))∧Wk w' p d n t s∧Kp p w1 w'):
  Calls Tryz.prog 54 #[bkt b lv uv,.func (.func g) #[] caps] w fun e w'=>∃ A c A' c',e=.returned (.tuple #[.agg (wcl b A c A' c' 0 0 noS),.int .i64 (k:Nat)])∧BktV w' b (.slice A b.L.length c) (.slice A' b.U.length c')∧Q w w':=by
 have hkb:((k:Int)==0)=false:=by simpa using hk
 have hkn:(k:Int)≠0:=by omega
 have HM:=AC p1
 clear p1 hk
 have hmf:=@HMF
 obtain⟨A0,c0,rfl⟩:=hv.1.form
 obtain⟨B0,d0,rfl⟩:=hv.2.form
 have q0:Q w (((w.alloc (.cells (bcl b (.slice A0 b.L.length c0) (.slice B0 b.U.length d0)) 26)).alloc (.cells #[.string ⟨#[]⟩,.int .i64 0,.slice none 0 0,.slice none 0 0,.int .u64 0,.int .u64 0,.int .u32 0,.string ⟨#[]⟩] 109)).alloc (.cells #[.int .i64 0] 32)):=(((Q.refl w).alloc _).alloc _).alloc _
 have Z:=AC (((Bx.new w 26 (bcl b (.slice A0 b.L.length c0) (.slice B0 b.U.length d0))).alloc (.cells #[.string ⟨#[]⟩,.int .i64 0,.slice none 0 0,.slice none 0 0,.int .u64 0,.int .u64 0,.int .u32 0,.string ⟨#[]⟩] 109)).alloc (.cells #[.int .i64 0] 32))
 have Y0:=(Bx.new (w.alloc (.cells (bcl b (.slice A0 b.L.length c0) (.slice B0 b.U.length d0)) 26)) 109 #[.string ⟨#[]⟩,.int .i64 0,.slice none 0 0,.slice none 0 0,.int .u64 0,.int .u64 0,.int .u32 0,.string ⟨#[]⟩]).alloc (.cells #[.int .i64 0] 32)
 have X0:=Bx.new ((w.alloc (.cells (bcl b (.slice A0 b.L.length c0) (.slice B0 b.U.length d0)) 26)).alloc (.cells #[.string ⟨#[]⟩,.int .i64 0,.slice none 0 0,.slice none 0 0,.int .u64 0,.int .u64 0,.int .u32 0,.string ⟨#[]⟩] 109)) 32 #[.int .i64 0]
 simp only [World.size_alloc] at Y0 X0
 have Y:=AC Y0
 have X:=AC X0
 have AP:=AC (Cy b (.slice A0 b.L.length c0) (.slice B0 b.U.length d0) (((w.alloc (.cells (bcl b (.slice A0 b.L.length c0) (.slice B0 b.U.length d0)) 26)).alloc (.cells #[.string ⟨#[]⟩,.int .i64 0,.slice none 0 0,.slice none 0 0,.int .u64 0,.int .u64 0,.int .u32 0,.string ⟨#[]⟩] 109)).alloc (.cells #[.int .i64 0] 32)) hs hu (hv.on q0))
 have CK:=AC fun d (q:Q w d)=>BN b (.slice A0 b.L.length c0) (.slice B0 b.U.length d0) d true hR hn hs hu (hv.on q)
 clear hs hu hv Y0 X0
 rw [bkt] at AP CK
 rw [bkt]
 go_enter_defers Tryz.func54,Tryz.ntmps54
 go_wp2_with fail
 refine(AP.out).mono ?_
 rintro e w1 ⟨A1,c1,A2,c2,rfl,v1,q1⟩
 have s1:w.heap.size+1+1+1≤w1.heap.size:=by have:=q1.size;simpa using this
 have z1:=Z.out.on q1
 have y1:=Y.out.on q1
 have x1:=X.out.on q1
 have V1:=AC v1
 have cy:=AC (show Calm w1 (w.heap.size+1) from⟨_,_,y1,rfl⟩)
 obtain⟨k0,k1,k2,k3,k4⟩:=AD z1
 obtain⟨⟨a0,a1,a2,a3,a4,a5,a6,a7⟩,f0,f1,f2,f3,f4,f5,f6,f7⟩:=bx8 y1
 have XX:=AC x1
 have ZZ:=AC z1
 have YY:=AC y1
 clear x1 v1 z1 y1
 rw [bkt]
 go_upto_region 2 with fail
 obtain⟨wa,hwa⟩:∃ x,x=(((((w1.setCell ⟨w.heap.size+1,0,none⟩ (.string b.name)).setCell ⟨w.heap.size+1,1,none⟩ (.int .i64 b.st)).setCell ⟨w.heap.size+1,2,none⟩ (.slice A1 b.L.length c1)).setCell ⟨w.heap.size+1,3,none⟩ (.slice A2 b.U.length c2)).setCell ⟨w.heap.size+1,4,none⟩ (.int .u64 (b.last:Nat))):=⟨_,rfl⟩
 rw [← hwa]
 have b0:Bx _ (w.heap.size+1) 109 #[.string b.name,.int .i64 0,.slice none 0 0,.slice none 0 0,.int .u64 0,.int .u64 0,.int .u32 0,.string ⟨#[]⟩]:=YY.out.set 0 (.string b.name)
 have b1:Bx _ (w.heap.size+1) 109 #[.string b.name,.int .i64 b.st,.slice none 0 0,.slice none 0 0,.int .u64 0,.int .u64 0,.int .u32 0,.string ⟨#[]⟩]:=b0.set 1 (.int .i64 b.st)
 have b2:Bx _ (w.heap.size+1) 109 #[.string b.name,.int .i64 b.st,.slice A1 b.L.length c1,.slice none 0 0,.int .u64 0,.int .u64 0,.int .u32 0,.string ⟨#[]⟩]:=b1.set 2 (.slice A1 b.L.length c1)
 have b3:Bx _ (w.heap.size+1) 109 #[.string b.name,.int .i64 b.st,.slice A1 b.L.length c1,.slice A2 b.U.length c2,.int .u64 0,.int .u64 0,.int .u32 0,.string ⟨#[]⟩]:=b2.set 3 (.slice A2 b.U.length c2)
 have b4:Bx _ (w.heap.size+1) 109 #[.string b.name,.int .i64 b.st,.slice A1 b.L.length c1,.slice A2 b.U.length c2,.int .u64 (b.last:Nat),.int .u64 0,.int .u32 0,.string ⟨#[]⟩]:=b3.set 4 (.int .u64 (b.last:Nat))
 have ga:Kp (w.heap.size+1) w1 wa:=by rw [hwa];exact(((((Kp.of (Q.refl w1)).set 0 _).set 1 _).set 2 _).set 3 _).set 4 _
 have ya:Bx wa (w.heap.size+1) 109 (wcl b A1 c1 A2 c2 0 0 noS):=by rw [hwa];exact b4
 have za:=ga.bx ZZ.out (by omega)
 have xa:=ga.bx XX.out (by omega)
 have va:=V1.out.kp cy.out ga
 have qa:=ga.q (q0.trans q1) (by omega)
 have sa:w.heap.size+1+1+1≤wa.heap.size:=Nat.le_trans s1 ga.size
 clear hwa b0 b1 b2 b3 b4 ga ZZ XX YY V1 cy k0 k1 k2 k3 k4 a0 a1 a2 a3 a4 a5 a6 a7 f0 f1 f2 f3 f4 f5 f6 f7 q1 s1 Z Y X AP
 have qd:Q wa (wa.alloc (.cells #[.string b.name,.int .i64 b.st,.slice A1 b.L.length c1,.slice A2 b.U.length c2,.int .u64 (b.last:Nat),.int .u64 0,.int .u32 0,.string noS] 109)):=(Q.refl wa).alloc _
 have bd:Hid (Bx (wa.alloc (.cells #[.string b.name,.int .i64 b.st,.slice A1 b.L.length c1,.slice A2 b.U.length c2,.int .u64 (b.last:Nat),.int .u64 0,.int .u32 0,.string noS] 109)) wa.heap.size 109 (wcl b A1 c1 A2 c2 0 0 noS)):=AC (Bx.new wa 109 (wcl b A1 c1 A2 c2 0 0 noS))
 obtain⟨e0,e1,e2,e3,e4,e5,e6,e7⟩:=(AO ya).1
 obtain⟨k0,k1,k2,k3,k4⟩:=AD (za.on qd)
 have KA:=AC (And.intro ya (And.intro xa (And.intro va qa)))
 clear ya za xa va
 go_wp2_with fail
 refine(CK.out _ (qa.trans qd)).mono ?_
 rintro e w3 ⟨rfl,q3⟩
 have b3:=bd.out.on q3
 have q3:=qd.trans q3
 have y3:=KA.out.1.on q3
 have x3:=KA.out.2.1.on q3
 have v3:=KA.out.2.2.1.on q3
 have qz:=KA.out.2.2.2.trans q3
 obtain⟨⟨e0,e1,e2,e3,e4,e5,e6,e7⟩,f0,f1,f2,f3,f4,f5,f6,f7⟩:=AO y3
 have m0:w3.cell? ⟨w.heap.size+1+1,0,none⟩=some (.int .i64 0):=by rw [x3.cell];rfl
 have m1:=x3.frozen 0
 have K3:=AC (And.intro y3 (And.intro x3 (And.intro b3 (And.intro v3 qz))))
 clear KA bd y3 x3 b3 v3 qz qa k0 k1 k2 k3 k4
 have CM:=AC (HM.out w3 (w.heap.size+1) (by omega) K3.out.2.2.2.2 ⟨A1,c1,A2,c2,K3.out.1,K3.out.2.2.2.1⟩)
 go_wp2_with fail
 refine(CM.out).mono ?_
 rintro e w4 ⟨rfl,hk4,g4⟩
 have y0:=K3.out.1
 have x4:=g4.bx K3.out.2.1 (by omega)
 have b4:=g4.bx K3.out.2.2.1 (by omega)
 have v4:=K3.out.2.2.2.1.kp (Ap y0) g4
 have q4:=g4.q K3.out.2.2.2.2 (by omega)
 obtain⟨E1,h1,E2,h2,y4,u4⟩:=hk4
 have m0:w4.cell? ⟨w.heap.size+1+1,0,none⟩=some (.int .i64 0):=by rw [x4.cell];rfl
 have m1:=x4.frozen 0
 have cx:Calm w4 (w.heap.size+1+1):=⟨_,_,x4,rfl⟩
 have gx:=Ad w4 (w.heap.size+1+1) 0 (.int .i64 (k:Nat))
 have K5:Hid (_∧_∧_∧_∧_∧_):=AC ⟨y4.other (B2:=w.heap.size+1+1) (by omega) 0 (.int .i64 (k:Nat)),x4.set 0 (.int .i64 (k:Nat)),b4.other (B2:=w.heap.size+1+1) (by omega) 0 (.int .i64 (k:Nat)),v4.kp cx gx,u4.kp cx gx,Kp.q q4 gx (by omega)⟩
 clear y0 x4 b4 v4 q4 y4 u4 cx gx g4 e0 e1 e2 e3 e4 e5 e6 e7 f0 f1 f2 f3 f4 f5 f6 f7
 go_upto_region 7 with fail
 obtain⟨w5,hw5⟩:∃ x,x=(w4.setCell ⟨w.heap.size+1+1,0,none⟩ (.int .i64 (k:Nat))):=⟨_,rfl⟩
 rw [← hw5] at K5 ⊢
 clear hw5 m0 m1
 obtain⟨⟨e0,e1,e2,e3,e4,e5,e6,e7⟩,f0,f1,f2,f3,f4,f5,f6,f7⟩:=AO K5.out.1
 have m0:w5.cell? ⟨w.heap.size+1+1,0,none⟩=some (.int .i64 (k:Nat)):=by rw [K5.out.2.1.cell];rfl
 have m1:=K5.out.2.1.frozen 0
 go_upto_region 9 with fail
 go_region
 go_wp2
 have g8:=G0 (b:=d) (A1:=E1) (A2:=E2) (c1:=h1) (c2:=h2) (n:=n) (t:=t) (s:=s) K5.out.1
 have x8:=g8.2.bx K5.out.2.1 (by omega)
 have cE:Calm _ (w.heap.size+1+1):=⟨_,_,x8,rfl⟩
 have v8:=((K5.out.2.2.2.1.kp (Ap K5.out.1) g8.2).kp cE (Ad _ _ 0 (.int .i64 (k:Nat)))).on (Q.refl _).drew
 have b8:=((g8.2.bx K5.out.2.2.1 (by omega)).other (B2:=w.heap.size+1+1) (by omega) 0 (.int .i64 (k:Nat))).on (Q.refl _).drew
 have y8:=(g8.1.other (B2:=w.heap.size+1+1) (by omega) 0 (.int .i64 (k:Nat))).on (Q.refl _).drew
 have q8:=(Kp.q (Kp.q K5.out.2.2.2.2.2 g8.2 (by omega)) (Ad _ (w.heap.size+1+1) 0 (.int .i64 (k:Nat))) (by omega)).drew
 refine Gd _ _ _ _ _ _ (k:Nat) b A1 A2 c1 c2 0 0 noS _ _ _ _ _ _ _ _ rfl rfl ((x8.set 0 (.int .i64 (k:Nat))).on (Q.refl _).drew) hkn b8 y8 (by omega) (by omega) (fun w' h1 h2=>?_)
 exact⟨A1,c1,A2,c2,rfl,v8.kp (Ap y8) h2,h2.q q8 (by omega)⟩
theorem LJ(b:Bkt)(lv uv:Value)(w:World)(g:Nat)(caps:Array Value)(eg:∀ args w,(callFunc g args).run Tryz.prog w=.ok (.enter g args) w)(hn:b.name.size≤1000)(hs:smE b.L)(hu:smL b.U)(hv:BktV w b lv uv)(hR:Chk (okB b) true)(d:Bkt)(n t:Nat)(s:ByteArray)(hE:smE d.L)(hU:smL d.U)(ho:20000<Bz d)(p1:∀ w1 p,w.heap.size≤p→Q w w1→Wk w1 p b 0 0 noS→Calls Tryz.prog g (#[.pointer (some ⟨p,0,none⟩)]++caps) w1 fun e w'=>e=.returned (.int .i64 0)∧Wk w' p d n t s∧Kp p w1 w'):
  Calls Tryz.prog 54 #[bkt b lv uv,.func (.func g) #[] caps] w fun e w'=>∃ A c A' c',e=.returned (.tuple #[.agg (wcl b A c A' c' 0 0 noS),.int .i64 6])∧BktV w' b (.slice A b.L.length c) (.slice A' b.U.length c')∧Q w w':=by
 have hob:(20000:Int)<((Bz d:Nat):Int):=by omega
 have HM:=AC p1
 clear p1 ho
 have hmf:=@HMF
 obtain⟨A0,c0,rfl⟩:=hv.1.form
 obtain⟨B0,d0,rfl⟩:=hv.2.form
 have q0:Q w (((w.alloc (.cells (bcl b (.slice A0 b.L.length c0) (.slice B0 b.U.length d0)) 26)).alloc (.cells #[.string ⟨#[]⟩,.int .i64 0,.slice none 0 0,.slice none 0 0,.int .u64 0,.int .u64 0,.int .u32 0,.string ⟨#[]⟩] 109)).alloc (.cells #[.int .i64 0] 32)):=(((Q.refl w).alloc _).alloc _).alloc _
 have Z:=AC (((Bx.new w 26 (bcl b (.slice A0 b.L.length c0) (.slice B0 b.U.length d0))).alloc (.cells #[.string ⟨#[]⟩,.int .i64 0,.slice none 0 0,.slice none 0 0,.int .u64 0,.int .u64 0,.int .u32 0,.string ⟨#[]⟩] 109)).alloc (.cells #[.int .i64 0] 32))
 have Y0:=(Bx.new (w.alloc (.cells (bcl b (.slice A0 b.L.length c0) (.slice B0 b.U.length d0)) 26)) 109 #[.string ⟨#[]⟩,.int .i64 0,.slice none 0 0,.slice none 0 0,.int .u64 0,.int .u64 0,.int .u32 0,.string ⟨#[]⟩]).alloc (.cells #[.int .i64 0] 32)
 have X0:=Bx.new ((w.alloc (.cells (bcl b (.slice A0 b.L.length c0) (.slice B0 b.U.length d0)) 26)).alloc (.cells #[.string ⟨#[]⟩,.int .i64 0,.slice none 0 0,.slice none 0 0,.int .u64 0,.int .u64 0,.int .u32 0,.string ⟨#[]⟩] 109)) 32 #[.int .i64 0]
 simp only [World.size_alloc] at Y0 X0
 have Y:=AC Y0
 have X:=AC X0
 have AP:=AC (Cy b (.slice A0 b.L.length c0) (.slice B0 b.U.length d0) (((w.alloc (.cells (bcl b (.slice A0 b.L.length c0) (.slice B0 b.U.length d0)) 26)).alloc (.cells #[.string ⟨#[]⟩,.int .i64 0,.slice none 0 0,.slice none 0 0,.int .u64 0,.int .u64 0,.int .u32 0,.string ⟨#[]⟩] 109)).alloc (.cells #[.int .i64 0] 32)) hs hu (hv.on q0))
 have CK:=AC fun d (q:Q w d)=>BN b (.slice A0 b.L.length c0) (.slice B0 b.U.length d0) d true hR hn hs hu (hv.on q)
 clear hs hu hv Y0 X0
 rw [bkt] at AP CK
 rw [bkt]
 go_enter_defers Tryz.func54,Tryz.ntmps54
 go_wp2_with fail
 refine(AP.out).mono ?_
 rintro e w1 ⟨A1,c1,A2,c2,rfl,v1,q1⟩
 have s1:w.heap.size+1+1+1≤w1.heap.size:=by have:=q1.size;simpa using this
 have z1:=Z.out.on q1
 have y1:=Y.out.on q1
 have x1:=X.out.on q1
 have V1:=AC v1
 have cy:=AC (show Calm w1 (w.heap.size+1) from⟨_,_,y1,rfl⟩)
 obtain⟨k0,k1,k2,k3,k4⟩:=AD z1
 obtain⟨⟨a0,a1,a2,a3,a4,a5,a6,a7⟩,f0,f1,f2,f3,f4,f5,f6,f7⟩:=bx8 y1
 have XX:=AC x1
 have ZZ:=AC z1
 have YY:=AC y1
 clear x1 v1 z1 y1
 rw [bkt]
 go_upto_region 2 with fail
 obtain⟨wa,hwa⟩:∃ x,x=(((((w1.setCell ⟨w.heap.size+1,0,none⟩ (.string b.name)).setCell ⟨w.heap.size+1,1,none⟩ (.int .i64 b.st)).setCell ⟨w.heap.size+1,2,none⟩ (.slice A1 b.L.length c1)).setCell ⟨w.heap.size+1,3,none⟩ (.slice A2 b.U.length c2)).setCell ⟨w.heap.size+1,4,none⟩ (.int .u64 (b.last:Nat))):=⟨_,rfl⟩
 rw [← hwa]
 have b0:Bx _ (w.heap.size+1) 109 #[.string b.name,.int .i64 0,.slice none 0 0,.slice none 0 0,.int .u64 0,.int .u64 0,.int .u32 0,.string ⟨#[]⟩]:=YY.out.set 0 (.string b.name)
 have b1:Bx _ (w.heap.size+1) 109 #[.string b.name,.int .i64 b.st,.slice none 0 0,.slice none 0 0,.int .u64 0,.int .u64 0,.int .u32 0,.string ⟨#[]⟩]:=b0.set 1 (.int .i64 b.st)
 have b2:Bx _ (w.heap.size+1) 109 #[.string b.name,.int .i64 b.st,.slice A1 b.L.length c1,.slice none 0 0,.int .u64 0,.int .u64 0,.int .u32 0,.string ⟨#[]⟩]:=b1.set 2 (.slice A1 b.L.length c1)
 have b3:Bx _ (w.heap.size+1) 109 #[.string b.name,.int .i64 b.st,.slice A1 b.L.length c1,.slice A2 b.U.length c2,.int .u64 0,.int .u64 0,.int .u32 0,.string ⟨#[]⟩]:=b2.set 3 (.slice A2 b.U.length c2)
 have b4:Bx _ (w.heap.size+1) 109 #[.string b.name,.int .i64 b.st,.slice A1 b.L.length c1,.slice A2 b.U.length c2,.int .u64 (b.last:Nat),.int .u64 0,.int .u32 0,.string ⟨#[]⟩]:=b3.set 4 (.int .u64 (b.last:Nat))
 have ga:Kp (w.heap.size+1) w1 wa:=by rw [hwa];exact(((((Kp.of (Q.refl w1)).set 0 _).set 1 _).set 2 _).set 3 _).set 4 _
 have ya:Bx wa (w.heap.size+1) 109 (wcl b A1 c1 A2 c2 0 0 noS):=by rw [hwa];exact b4
 have za:=ga.bx ZZ.out (by omega)
 have xa:=ga.bx XX.out (by omega)
 have va:=V1.out.kp cy.out ga
 have qa:=ga.q (q0.trans q1) (by omega)
 have sa:w.heap.size+1+1+1≤wa.heap.size:=Nat.le_trans s1 ga.size
 clear hwa b0 b1 b2 b3 b4 ga ZZ XX YY V1 cy k0 k1 k2 k3 k4 a0 a1 a2 a3 a4 a5 a6 a7 f0 f1 f2 f3 f4 f5 f6 f7 q1 s1 Z Y X AP
 have qd:Q wa (wa.alloc (.cells #[.string b.name,.int .i64 b.st,.slice A1 b.L.length c1,.slice A2 b.U.length c2,.int .u64 (b.last:Nat),.int .u64 0,.int .u32 0,.string noS] 109)):=(Q.refl wa).alloc _
 have bd:Hid (Bx (wa.alloc (.cells #[.string b.name,.int .i64 b.st,.slice A1 b.L.length c1,.slice A2 b.U.length c2,.int .u64 (b.last:Nat),.int .u64 0,.int .u32 0,.string noS] 109)) wa.heap.size 109 (wcl b A1 c1 A2 c2 0 0 noS)):=AC (Bx.new wa 109 (wcl b A1 c1 A2 c2 0 0 noS))
 obtain⟨e0,e1,e2,e3,e4,e5,e6,e7⟩:=(AO ya).1
 obtain⟨k0,k1,k2,k3,k4⟩:=AD (za.on qd)
 have KA:=AC (And.intro ya (And.intro xa (And.intro va qa)))
 clear ya za xa va
 go_wp2_with fail
 refine(CK.out _ (qa.trans qd)).mono ?_
 rintro e w3 ⟨rfl,q3⟩
 have b3:=bd.out.on q3
 have q3:=qd.trans q3
 have y3:=KA.out.1.on q3
 have x3:=KA.out.2.1.on q3
 have v3:=KA.out.2.2.1.on q3
 have qz:=KA.out.2.2.2.trans q3
 obtain⟨⟨e0,e1,e2,e3,e4,e5,e6,e7⟩,f0,f1,f2,f3,f4,f5,f6,f7⟩:=AO y3
 have m0:w3.cell? ⟨w.heap.size+1+1,0,none⟩=some (.int .i64 0):=by rw [x3.cell];rfl
 have m1:=x3.frozen 0
 have K3:=AC (And.intro y3 (And.intro x3 (And.intro b3 (And.intro v3 qz))))
 clear KA bd y3 x3 b3 v3 qz qa k0 k1 k2 k3 k4
 have CM:=AC (HM.out w3 (w.heap.size+1) (by omega) K3.out.2.2.2.2 ⟨A1,c1,A2,c2,K3.out.1,K3.out.2.2.2.1⟩)
 go_wp2_with fail
 refine(CM.out).mono ?_
 rintro e w4 ⟨rfl,hk4,g4⟩
 have y0:=K3.out.1
 have x4:=g4.bx K3.out.2.1 (by omega)
 have b4:=g4.bx K3.out.2.2.1 (by omega)
 have v4:=K3.out.2.2.2.1.kp (Ap y0) g4
 have q4:=g4.q K3.out.2.2.2.2 (by omega)
 obtain⟨E1,h1,E2,h2,y4,u4⟩:=hk4
 have m0:w4.cell? ⟨w.heap.size+1+1,0,none⟩=some (.int .i64 0):=by rw [x4.cell];rfl
 have m1:=x4.frozen 0
 have cx:Calm w4 (w.heap.size+1+1):=⟨_,_,x4,rfl⟩
 have gx:=Ad w4 (w.heap.size+1+1) 0 (.int .i64 0)
 have K5:Hid (_∧_∧_∧_∧_∧_):=AC ⟨y4.other (B2:=w.heap.size+1+1) (by omega) 0 (.int .i64 0),x4.set 0 (.int .i64 0),b4.other (B2:=w.heap.size+1+1) (by omega) 0 (.int .i64 0),v4.kp cx gx,u4.kp cx gx,Kp.q q4 gx (by omega)⟩
 clear y0 x4 b4 v4 q4 y4 u4 cx gx g4 e0 e1 e2 e3 e4 e5 e6 e7 f0 f1 f2 f3 f4 f5 f6 f7
 go_upto_region 7 with fail
 obtain⟨w5,hw5⟩:∃ x,x=(w4.setCell ⟨w.heap.size+1+1,0,none⟩ (.int .i64 0)):=⟨_,rfl⟩
 rw [← hw5] at K5 ⊢
 clear hw5 m0 m1
 obtain⟨⟨e0,e1,e2,e3,e4,e5,e6,e7⟩,f0,f1,f2,f3,f4,f5,f6,f7⟩:=AO K5.out.1
 have m0:w5.cell? ⟨w.heap.size+1+1,0,none⟩=some (.int .i64 0):=by rw [K5.out.2.1.cell];rfl
 have m1:=K5.out.2.1.frozen 0
 have BO:=AC (Gp d (.slice E1 d.L.length h1) (.slice E2 d.U.length h2) w5 hE hU K5.out.2.2.2.2.1)
 rw [bkt] at BO
 go_wp2_with fail
 refine(BO.out).mono ?_
 rintro e w6 ⟨rfl,q6⟩
 have K6:Hid (_∧_∧_∧_∧_∧_):=AC ⟨K5.out.1.on q6,K5.out.2.1.on q6,K5.out.2.2.1.on q6,K5.out.2.2.2.1.on q6,K5.out.2.2.2.2.1.on q6,K5.out.2.2.2.2.2.trans q6⟩
 clear K5 BO q6 e0 e1 e2 e3 e4 e5 e6 e7 f0 f1 f2 f3 f4 f5 f6 f7 m0 m1
 obtain⟨⟨e0,e1,e2,e3,e4,e5,e6,e7⟩,f0,f1,f2,f3,f4,f5,f6,f7⟩:=AO K6.out.1
 have m0:w6.cell? ⟨w.heap.size+1+1,0,none⟩=some (.int .i64 0):=by rw [K6.out.2.1.cell];rfl
 have m1:=K6.out.2.1.frozen 0
 go_upto_region 9 with fail
 have cx:Calm w6 (w.heap.size+1+1):=⟨_,_,K6.out.2.1,rfl⟩
 have gx:=Ad w6 (w.heap.size+1+1) 0 (.int .i64 6)
 have K7:Hid (_∧_∧_∧_∧_∧_):=AC ⟨K6.out.1.other (B2:=w.heap.size+1+1) (by omega) 0 (.int .i64 6),K6.out.2.1.set 0 (.int .i64 6),K6.out.2.2.1.other (B2:=w.heap.size+1+1) (by omega) 0 (.int .i64 6),K6.out.2.2.2.1.kp cx gx,K6.out.2.2.2.2.1.kp cx gx,Kp.q K6.out.2.2.2.2.2 gx (by omega)⟩
 obtain⟨w7,hw7⟩:∃ x,x=(w6.setCell ⟨w.heap.size+1+1,0,none⟩ (.int .i64 6)):=⟨_,rfl⟩
 rw [← hw7] at K7 ⊢
 clear hw7 m0 m1 cx gx K6 e0 e1 e2 e3 e4 e5 e6 e7 f0 f1 f2 f3 f4 f5 f6 f7
 obtain⟨⟨e0,e1,e2,e3,e4,e5,e6,e7⟩,f0,f1,f2,f3,f4,f5,f6,f7⟩:=AO K7.out.1
 have m0:w7.cell? ⟨w.heap.size+1+1,0,none⟩=some (.int .i64 6):=by rw [K7.out.2.1.cell];rfl
 have m1:=K7.out.2.1.frozen 0
 go_region
 go_wp2
 have g8:=G0 (b:=d) (A1:=E1) (A2:=E2) (c1:=h1) (c2:=h2) (n:=n) (t:=t) (s:=s) K7.out.1
 have x8:=g8.2.bx K7.out.2.1 (by omega)
 have cE:Calm _ (w.heap.size+1+1):=⟨_,_,x8,rfl⟩
 have v8:=((K7.out.2.2.2.1.kp (Ap K7.out.1) g8.2).kp cE (Ad _ _ 0 (.int .i64 6))).on (Q.refl _).drew
 have b8:=((g8.2.bx K7.out.2.2.1 (by omega)).other (B2:=w.heap.size+1+1) (by omega) 0 (.int .i64 6)).on (Q.refl _).drew
 have y8:=(g8.1.other (B2:=w.heap.size+1+1) (by omega) 0 (.int .i64 6)).on (Q.refl _).drew
 have q8:=(Kp.q (Kp.q K7.out.2.2.2.2.2 g8.2 (by omega)) (Ad _ (w.heap.size+1+1) 0 (.int .i64 6)) (by omega)).drew
 refine Gd _ _ _ _ _ _ 6 b A1 A2 c1 c2 0 0 noS _ _ _ _ _ _ _ _ rfl rfl ((x8.set 0 (.int .i64 6)).on (Q.refl _).drew) (by decide) b8 y8 (by omega) (by omega) (fun w' h1 h2=>?_)
 exact⟨A1,c1,A2,c2,rfl,v8.kp (Ap y8) h2,h2.q q8 (by omega)⟩
theorem Nk(b:Bkt)(lv uv:Value)(w:World)(g:Nat)(caps:Array Value)(eg:∀ args w,(callFunc g args).run Tryz.prog w=.ok (.enter g args) w)(hn:b.name.size≤1000)(hs:smE b.L)(hu:smL b.U)(hv:BktV w b lv uv)(hR:Chk (okB b) true)(d:Bkt)(n t:Nat)(s:ByteArray)(hE:smE d.L)(hU:smL d.U)(ho:Bz d≤20000)(p1:∀ w1 p,w.heap.size≤p→Q w w1→Wk w1 p b 0 0 noS→Calls Tryz.prog g (#[.pointer (some ⟨p,0,none⟩)]++caps) w1 fun e w'=>e=.returned (.int .i64 0)∧Wk w' p d n t s∧Kp p w1 w'):
  Calls Tryz.prog 54 #[bkt b lv uv,.func (.func g) #[] caps] w fun e w'=>∃ A c A' c',e=.returned (.tuple #[.agg (wcl d A c A' c' (n:Nat) (t:Nat) s),.int .i64 0])∧BktV w' d (.slice A d.L.length c) (.slice A' d.U.length c')∧Q w w':=by
 have hob:¬ (20000:Int)<((Bz d:Nat):Int):=by omega
 have HM:=AC p1
 clear p1 ho
 have hmf:=@HMF
 obtain⟨A0,c0,rfl⟩:=hv.1.form
 obtain⟨B0,d0,rfl⟩:=hv.2.form
 have q0:Q w (((w.alloc (.cells (bcl b (.slice A0 b.L.length c0) (.slice B0 b.U.length d0)) 26)).alloc (.cells #[.string ⟨#[]⟩,.int .i64 0,.slice none 0 0,.slice none 0 0,.int .u64 0,.int .u64 0,.int .u32 0,.string ⟨#[]⟩] 109)).alloc (.cells #[.int .i64 0] 32)):=(((Q.refl w).alloc _).alloc _).alloc _
 have Z:=AC (((Bx.new w 26 (bcl b (.slice A0 b.L.length c0) (.slice B0 b.U.length d0))).alloc (.cells #[.string ⟨#[]⟩,.int .i64 0,.slice none 0 0,.slice none 0 0,.int .u64 0,.int .u64 0,.int .u32 0,.string ⟨#[]⟩] 109)).alloc (.cells #[.int .i64 0] 32))
 have Y0:=(Bx.new (w.alloc (.cells (bcl b (.slice A0 b.L.length c0) (.slice B0 b.U.length d0)) 26)) 109 #[.string ⟨#[]⟩,.int .i64 0,.slice none 0 0,.slice none 0 0,.int .u64 0,.int .u64 0,.int .u32 0,.string ⟨#[]⟩]).alloc (.cells #[.int .i64 0] 32)
 have X0:=Bx.new ((w.alloc (.cells (bcl b (.slice A0 b.L.length c0) (.slice B0 b.U.length d0)) 26)).alloc (.cells #[.string ⟨#[]⟩,.int .i64 0,.slice none 0 0,.slice none 0 0,.int .u64 0,.int .u64 0,.int .u32 0,.string ⟨#[]⟩] 109)) 32 #[.int .i64 0]
 simp only [World.size_alloc] at Y0 X0
 have Y:=AC Y0
 have X:=AC X0
 have AP:=AC (Cy b (.slice A0 b.L.length c0) (.slice B0 b.U.length d0) (((w.alloc (.cells (bcl b (.slice A0 b.L.length c0) (.slice B0 b.U.length d0)) 26)).alloc (.cells #[.string ⟨#[]⟩,.int .i64 0,.slice none 0 0,.slice none 0 0,.int .u64 0,.int .u64 0,.int .u32 0,.string ⟨#[]⟩] 109)).alloc (.cells #[.int .i64 0] 32)) hs hu (hv.on q0))
 have CK:=AC fun d (q:Q w d)=>BN b (.slice A0 b.L.length c0) (.slice B0 b.U.length d0) d true hR hn hs hu (hv.on q)
 clear hs hu hv Y0 X0
 rw [bkt] at AP CK
 rw [bkt]
 go_enter_defers Tryz.func54,Tryz.ntmps54
 go_wp2_with fail
 refine(AP.out).mono ?_
 rintro e w1 ⟨A1,c1,A2,c2,rfl,v1,q1⟩
 have s1:w.heap.size+1+1+1≤w1.heap.size:=by have:=q1.size;simpa using this
 have z1:=Z.out.on q1
 have y1:=Y.out.on q1
 have x1:=X.out.on q1
 have V1:=AC v1
 have cy:=AC (show Calm w1 (w.heap.size+1) from⟨_,_,y1,rfl⟩)
 obtain⟨k0,k1,k2,k3,k4⟩:=AD z1
 obtain⟨⟨a0,a1,a2,a3,a4,a5,a6,a7⟩,f0,f1,f2,f3,f4,f5,f6,f7⟩:=bx8 y1
 have XX:=AC x1
 have ZZ:=AC z1
 have YY:=AC y1
 clear x1 v1 z1 y1
 rw [bkt]
 go_upto_region 2 with fail
 obtain⟨wa,hwa⟩:∃ x,x=(((((w1.setCell ⟨w.heap.size+1,0,none⟩ (.string b.name)).setCell ⟨w.heap.size+1,1,none⟩ (.int .i64 b.st)).setCell ⟨w.heap.size+1,2,none⟩ (.slice A1 b.L.length c1)).setCell ⟨w.heap.size+1,3,none⟩ (.slice A2 b.U.length c2)).setCell ⟨w.heap.size+1,4,none⟩ (.int .u64 (b.last:Nat))):=⟨_,rfl⟩
 rw [← hwa]
 have b0:Bx _ (w.heap.size+1) 109 #[.string b.name,.int .i64 0,.slice none 0 0,.slice none 0 0,.int .u64 0,.int .u64 0,.int .u32 0,.string ⟨#[]⟩]:=YY.out.set 0 (.string b.name)
 have b1:Bx _ (w.heap.size+1) 109 #[.string b.name,.int .i64 b.st,.slice none 0 0,.slice none 0 0,.int .u64 0,.int .u64 0,.int .u32 0,.string ⟨#[]⟩]:=b0.set 1 (.int .i64 b.st)
 have b2:Bx _ (w.heap.size+1) 109 #[.string b.name,.int .i64 b.st,.slice A1 b.L.length c1,.slice none 0 0,.int .u64 0,.int .u64 0,.int .u32 0,.string ⟨#[]⟩]:=b1.set 2 (.slice A1 b.L.length c1)
 have b3:Bx _ (w.heap.size+1) 109 #[.string b.name,.int .i64 b.st,.slice A1 b.L.length c1,.slice A2 b.U.length c2,.int .u64 0,.int .u64 0,.int .u32 0,.string ⟨#[]⟩]:=b2.set 3 (.slice A2 b.U.length c2)
 have b4:Bx _ (w.heap.size+1) 109 #[.string b.name,.int .i64 b.st,.slice A1 b.L.length c1,.slice A2 b.U.length c2,.int .u64 (b.last:Nat),.int .u64 0,.int .u32 0,.string ⟨#[]⟩]:=b3.set 4 (.int .u64 (b.last:Nat))
 have ga:Kp (w.heap.size+1) w1 wa:=by rw [hwa];exact(((((Kp.of (Q.refl w1)).set 0 _).set 1 _).set 2 _).set 3 _).set 4 _
 have ya:Bx wa (w.heap.size+1) 109 (wcl b A1 c1 A2 c2 0 0 noS):=by rw [hwa];exact b4
 have za:=ga.bx ZZ.out (by omega)
 have xa:=ga.bx XX.out (by omega)
 have va:=V1.out.kp cy.out ga
 have qa:=ga.q (q0.trans q1) (by omega)
 have sa:w.heap.size+1+1+1≤wa.heap.size:=Nat.le_trans s1 ga.size
 clear hwa b0 b1 b2 b3 b4 ga ZZ XX YY V1 cy k0 k1 k2 k3 k4 a0 a1 a2 a3 a4 a5 a6 a7 f0 f1 f2 f3 f4 f5 f6 f7 q1 s1 Z Y X AP
 have qd:Q wa (wa.alloc (.cells #[.string b.name,.int .i64 b.st,.slice A1 b.L.length c1,.slice A2 b.U.length c2,.int .u64 (b.last:Nat),.int .u64 0,.int .u32 0,.string noS] 109)):=(Q.refl wa).alloc _
 have bd:Hid (Bx (wa.alloc (.cells #[.string b.name,.int .i64 b.st,.slice A1 b.L.length c1,.slice A2 b.U.length c2,.int .u64 (b.last:Nat),.int .u64 0,.int .u32 0,.string noS] 109)) wa.heap.size 109 (wcl b A1 c1 A2 c2 0 0 noS)):=AC (Bx.new wa 109 (wcl b A1 c1 A2 c2 0 0 noS))
 obtain⟨e0,e1,e2,e3,e4,e5,e6,e7⟩:=(AO ya).1
 obtain⟨k0,k1,k2,k3,k4⟩:=AD (za.on qd)
 have KA:=AC (And.intro ya (And.intro xa (And.intro va qa)))
 clear ya za xa va
 go_wp2_with fail
 refine(CK.out _ (qa.trans qd)).mono ?_
 rintro e w3 ⟨rfl,q3⟩
 have b3:=bd.out.on q3
 have q3:=qd.trans q3
 have y3:=KA.out.1.on q3
 have x3:=KA.out.2.1.on q3
 have v3:=KA.out.2.2.1.on q3
 have qz:=KA.out.2.2.2.trans q3
 obtain⟨⟨e0,e1,e2,e3,e4,e5,e6,e7⟩,f0,f1,f2,f3,f4,f5,f6,f7⟩:=AO y3
 have m0:w3.cell? ⟨w.heap.size+1+1,0,none⟩=some (.int .i64 0):=by rw [x3.cell];rfl
 have m1:=x3.frozen 0
 have K3:=AC (And.intro y3 (And.intro x3 (And.intro b3 (And.intro v3 qz))))
 clear KA bd y3 x3 b3 v3 qz qa k0 k1 k2 k3 k4
 have CM:=AC (HM.out w3 (w.heap.size+1) (by omega) K3.out.2.2.2.2 ⟨A1,c1,A2,c2,K3.out.1,K3.out.2.2.2.1⟩)
 go_wp2_with fail
 refine(CM.out).mono ?_
 rintro e w4 ⟨rfl,hk4,g4⟩
 have y0:=K3.out.1
 have x4:=g4.bx K3.out.2.1 (by omega)
 have b4:=g4.bx K3.out.2.2.1 (by omega)
 have v4:=K3.out.2.2.2.1.kp (Ap y0) g4
 have q4:=g4.q K3.out.2.2.2.2 (by omega)
 obtain⟨E1,h1,E2,h2,y4,u4⟩:=hk4
 have m0:w4.cell? ⟨w.heap.size+1+1,0,none⟩=some (.int .i64 0):=by rw [x4.cell];rfl
 have m1:=x4.frozen 0
 have cx:Calm w4 (w.heap.size+1+1):=⟨_,_,x4,rfl⟩
 have gx:=Ad w4 (w.heap.size+1+1) 0 (.int .i64 0)
 have K5:Hid (_∧_∧_∧_∧_∧_):=AC ⟨y4.other (B2:=w.heap.size+1+1) (by omega) 0 (.int .i64 0),x4.set 0 (.int .i64 0),b4.other (B2:=w.heap.size+1+1) (by omega) 0 (.int .i64 0),v4.kp cx gx,u4.kp cx gx,Kp.q q4 gx (by omega)⟩
 clear y0 x4 b4 v4 q4 y4 u4 cx gx g4 e0 e1 e2 e3 e4 e5 e6 e7 f0 f1 f2 f3 f4 f5 f6 f7
 go_upto_region 7 with fail
 obtain⟨w5,hw5⟩:∃ x,x=(w4.setCell ⟨w.heap.size+1+1,0,none⟩ (.int .i64 0)):=⟨_,rfl⟩
 rw [← hw5] at K5 ⊢
 clear hw5 m0 m1
 obtain⟨⟨e0,e1,e2,e3,e4,e5,e6,e7⟩,f0,f1,f2,f3,f4,f5,f6,f7⟩:=AO K5.out.1
 have m0:w5.cell? ⟨w.heap.size+1+1,0,none⟩=some (.int .i64 0):=by rw [K5.out.2.1.cell];rfl
 have m1:=K5.out.2.1.frozen 0
 have BO:=AC (Gp d (.slice E1 d.L.length h1) (.slice E2 d.U.length h2) w5 hE hU K5.out.2.2.2.2.1)
 rw [bkt] at BO
 go_wp2_with fail
 refine(BO.out).mono ?_
 rintro e w6 ⟨rfl,q6⟩
 have K6:Hid (_∧_∧_∧_∧_∧_):=AC ⟨K5.out.1.on q6,K5.out.2.1.on q6,K5.out.2.2.1.on q6,K5.out.2.2.2.1.on q6,K5.out.2.2.2.2.1.on q6,K5.out.2.2.2.2.2.trans q6⟩
 clear K5 BO q6 e0 e1 e2 e3 e4 e5 e6 e7 f0 f1 f2 f3 f4 f5 f6 f7 m0 m1
 obtain⟨⟨e0,e1,e2,e3,e4,e5,e6,e7⟩,f0,f1,f2,f3,f4,f5,f6,f7⟩:=AO K6.out.1
 have m0:w6.cell? ⟨w.heap.size+1+1,0,none⟩=some (.int .i64 0):=by rw [K6.out.2.1.cell];rfl
 have m1:=K6.out.2.1.frozen 0
 go_upto_region 9 with fail
 go_region
 go_wp2
 have g8:=G0 (b:=d) (A1:=E1) (A2:=E2) (c1:=h1) (c2:=h2) (n:=n) (t:=t) (s:=s) K6.out.1
 have x8:=g8.2.bx K6.out.2.1 (by omega)
 have cE:Calm _ (w.heap.size+1+1):=⟨_,_,x8,rfl⟩
 have u8:=((K6.out.2.2.2.2.1.kp (Ap K6.out.1) g8.2).kp cE (Ad _ _ 0 (.int .i64 0))).on (Q.refl _).drew
 have y8:=(g8.1.other (B2:=w.heap.size+1+1) (by omega) 0 (.int .i64 0)).on (Q.refl _).drew
 have q8:=(Kp.q (Kp.q K6.out.2.2.2.2.2 g8.2 (by omega)) (Ad _ (w.heap.size+1+1) 0 (.int .i64 0)) (by omega)).drew
 refine Rz _ _ _ _ _ _ d E1 E2 h1 h2 n t s rfl rfl ((x8.set 0 (.int .i64 0)).on (Q.refl _).drew) y8 ?_
 exact⟨E1,h1,E2,h2,rfl,u8,q8⟩
theorem BM(b:Bkt)(lv uv:Value)(w:World)(g:Nat)(caps:Array Value)(eg:∀ args w,(callFunc g args).run Tryz.prog w=.ok (.enter g args) w)(hn:b.name.size≤1000)(hs:smE b.L)(hu:smL b.U)(hv:BktV w b lv uv)(R:Bkt→Nat→Nat→ByteArray→Nat→Prop)(d:Bkt)(n t:Nat)(s:ByteArray)(k:Nat)(hF:BC b R d n t s k)
  (hD:∀ d1 n1 t1 s1,okB b→R d1 n1 t1 s1 0→smE d1.L∧smL d1.U)
  (hM:∀ d1 n1 t1 s1 k1,R d1 n1 t1 s1 k1→∀ w1 p,w.heap.size≤p→Q w w1→Wk w1 p b 0 0 noS→Calls Tryz.prog g (#[.pointer (some ⟨p,0,none⟩)]++caps) w1 fun e w'=>e=.returned (.int .i64 (k1:Nat))∧Wk w' p d1 n1 t1 s1∧Kp p w1 w') :
  Calls Tryz.prog 54 #[bkt b lv uv,.func (.func g) #[] caps] w fun e w'=>∃ A c A' c',e=.returned (.tuple #[.agg (wcl d A c A' c' (n:Nat) (t:Nat) s),.int .i64 (k:Nat)])∧BktV w' d (.slice A d.L.length c) (.slice A' d.U.length c')∧Q w w':=by
 rcases hF with⟨h,⟨rfl,rfl,rfl,rfl⟩,rfl⟩ | ⟨h,d1,n1,t1,s1,k1,hr,⟨h0,⟨rfl,rfl,rfl,rfl⟩,rfl⟩ | ⟨rfl,h0,⟨rfl,rfl,rfl,rfl⟩,rfl⟩ | ⟨rfl,h0,⟨rfl,rfl,rfl,rfl⟩,rfl⟩⟩
 ·exact LM d lv uv w g caps eg hn hs hu hv (.inr ⟨rfl,h⟩)
 ·exact LI d lv uv w g caps eg hn hs hu hv (.inl ⟨rfl,h⟩) d1 n1 t1 s1 k h0 (hM _ _ _ _ _ hr)
 ·exact LJ d lv uv w g caps eg hn hs hu hv (.inl ⟨rfl,h⟩) d1 n1 t1 s1 (hD _ _ _ _ h hr).1 (hD _ _ _ _ h hr).2 h0 (hM _ _ _ _ _ hr)
 ·exact Nk b lv uv w g caps eg hn hs hu hv (.inl ⟨rfl,h⟩) d n t s (hD _ _ _ _ h hr).1 (hD _ _ _ _ h hr).2 h0 (hM _ _ _ _ _ hr)
end
end Go.Proofs.YtjjlbbfhmpbneaaGreat
