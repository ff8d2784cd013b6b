/-
  Contracts of the program's Turn, Put, Drop and Abort of a bucket. Contracts of the program's Delete, Begin, Lay and Whole of a bucket. Contracts of the program's Get and Find of a bucket.
-/
import Derived.Test.YtjjlbbfhmpbneaaGreatLv
import Derived.Test.YtjjlbbfhmpbneaaGreatLq
import Derived.Test.YtjjlbbfhmpbneaaGreatLr
import Derived.Deep.RegionHeld3
namespace Go.Proofs.YtjjlbbfhmpbneaaGreat
open Lib renaming hid → AC
set_option maxHeartbeats 16000000
set_option maxRecDepth 100000
set_option linter.unusedVariables false
set_option linter.unusedSimpArgs false
section
open Go.ChangeShapes Go.WideShapes Go.ChangeAt Go.RowKit Go.Shelf
theorem LC(w1:World)(p:Nat)(b:Bkt)(z:Int)(B0:Nat)(d:Bkt)(n t:Nat)(s:ByteArray)(k:Nat)(hg:FO b z d n t s k)(hs:smE b.L)(hu:smL b.U)  (H:Wk w1 p b 0 0 noS) (c00:w1.cell? ⟨B0,0,none⟩=some (.int .i64 z)) :
  Calls Tryz.prog 55 #[.pointer (some ⟨p,0,none⟩),.pointer (some ⟨B0,0,none⟩)] w1 fun e w'=>e=.returned (.int .i64 (k:Nat))∧Wk w' p d n t s∧Kp p w1 w':=by
 obtain⟨g0,rfl,rfl,rfl⟩:=hg
 have C:=AC (Ob w1 p b 0 0 noS z d k g0 H)
 clear hs hu H g0
 go_enter Tryz.func55,Tryz.ntmps55
 go_wp2_with fail
 refine(C.out).mono ?_
 rintro e w2 ⟨rfl,k2,g2⟩
 have K:=AC (And.intro k2 g2)
 clear k2 g2
 go_wp2
 go_ret
 exact⟨rfl,K.out.1,K.out.2⟩
theorem P4:∀ args w,(callFunc 55 args).run Tryz.prog w=.ok (.enter 55 args) w:=enters_of Tryz.func55 (by kernel_rfl) rfl
theorem H8(b:Bkt)(lv uv:Value)(w:World)(z:Int)(d:Bkt)(n t:Nat)(s:ByteArray)(k:Nat)(hF:BC b (FO b z) d n t s k)(hn:b.name.size≤1000)(hs:smE b.L)(hu:smL b.U)  (hv:BktV w b lv uv) :
  Calls Tryz.prog 19 #[bkt b lv uv,.int .i64 z] w fun e w'=>∃ A c A' c',e=.returned (.tuple #[bkt d (.slice A d.L.length c) (.slice A' d.U.length c'),.int .i64 (k:Nat)])∧BktV w' d (.slice A d.L.length c) (.slice A' d.U.length c')∧Q w w':=by
 have hmf:=@HMF
 obtain⟨A0,c0,rfl⟩:=hv.1.form
 obtain⟨B0,d0,rfl⟩:=hv.2.form
 have q0:Q w (((w.alloc (.cells (bcl b (.slice A0 b.L.length c0) (.slice B0 b.U.length d0)) 26)).alloc (.cells #[.int .i64 z] 3)).alloc (.cells (bcl noB (.slice none 0 0) (.slice none 0 0)) 26)):=((((Q.refl w).alloc _).alloc _).alloc _)
 have X0:=(Bx.new (w.alloc (.cells (bcl b (.slice A0 b.L.length c0) (.slice B0 b.U.length d0)) 26)) 3 #[.int .i64 z]).alloc (.cells (bcl noB (.slice none 0 0) (.slice none 0 0)) 26)
 have Y:=Bx.new ((w.alloc (.cells (bcl b (.slice A0 b.L.length c0) (.slice B0 b.U.length d0)) 26)).alloc (.cells #[.int .i64 z] 3)) 26 (bcl noB (.slice none 0 0) (.slice none 0 0))
 simp only [World.size_alloc] at X0 Y
 have x0:=X0
 have CH:=BM b (.slice A0 b.L.length c0) (.slice B0 b.U.length d0) (((w.alloc (.cells (bcl b (.slice A0 b.L.length c0) (.slice B0 b.U.length d0)) 26)).alloc (.cells #[.int .i64 z] 3)).alloc (.cells (bcl noB (.slice none 0 0) (.slice none 0 0)) 26)) 55 #[.pointer (some ⟨w.heap.size+1,0,none⟩)] P4 hn hs hu (hv.on q0) (FO b z) d n t s k hF
  (fun d1 n1 t1 s1 h1 h2=>BV (GB _ _ _ _ (Dl.1 h1).1 h2))
  (fun d1 n1 t1 s1 k1 hr w1 p hp qc K=>by
   skip
   exact LC w1 p b z (w.heap.size+1) d1 n1 t1 s1 k1 hr hs hu  K (by rw [(x0.on qc).cell];rfl))
 have CHH:=AC CH
 have ZY:=AC Y
 clear CH hF hs hu hv Y X0 x0
 rw [bkt] at CHH
 rw [bkt]
 go_enter Tryz.func19,Tryz.ntmps19
 go_wp2_with fail
 refine(CHH.out).mono ?_
 rintro e w1 ⟨A,c,A',c',rfl,v1,q1⟩
 have y1:=ZY.out.on q1
 have x1:=(Q.refl w1).alloc (.cells (wcl d A c A' c' n t s) 109)
 have hne:w.heap.size+1+1≠w1.heap.size:=by have:=q1.size;simp at this;omega
 obtain⟨a0,a1,a2,a3,a4⟩:=AD y1
 obtain⟨f0,f1,f2,f3,f4⟩:=AF y1
 have KK:=AC (And.intro (y1.on x1) (And.intro (v1.on x1) ((q0.trans q1).trans x1)))
 clear y1 v1 x1 CHH ZY
 rw [wcl]
 go_upto_region 2 with fail
 rw [wcl] at KK
 obtain⟨wx,hwx⟩:∃ x,x=(w1.alloc (.cells #[.string d.name,.int .i64 d.st,.slice A d.L.length c,.slice A' d.U.length c',.int .u64 (d.last:Nat),.int .u64 (n:Nat),.int .u32 (t:Nat),.string s] 109)):=⟨_,rfl⟩
 have bx:Bx wx w1.heap.size 109 (wcl d A c A' c' n t s):=by rw [hwx];exact Bx.new _ _ _
 rw [← hwx] at KK ⊢
 clear hwx a0 a1 a2 a3 a4 f0 f1 f2 f3 f4
 obtain⟨e0,e1,e2,e3,e4,e5,e6,e7⟩:=(AO bx).1
 obtain⟨a0,a1,a2,a3,a4⟩:=AD KK.out.1
 obtain⟨f0,f1,f2,f3,f4⟩:=AF KK.out.1
 clear bx
 go_wp2
 (try simp only [Exit.inBlock,Exit.then])
 have gC:=(((((Kp.of (p:=w.heap.size+1+1) (Q.refl wx)).set 0 (.string d.name)).set 1 (.int .i64 d.st)).set 2 (.slice A d.L.length c)).set 3 (.slice A' d.U.length c')).set 4 (.int .u64 (d.last:Nat))
 have bC:=AM (b:=d) (lv:=.slice A d.L.length c) (uv:=.slice A' d.U.length c') KK.out.1
 have qC:=gC.q KK.out.2.2 (by omega)
 have vC:=KK.out.2.1.kp (AI KK.out.1) gC
 generalize (((((wx.setCell ⟨w.heap.size+1+1,0,none⟩ (.string d.name)).setCell ⟨w.heap.size+1+1,1,none⟩ (.int .i64 d.st)).setCell ⟨w.heap.size+1+1,2,none⟩ (.slice A d.L.length c)).setCell ⟨w.heap.size+1+1,3,none⟩ (.slice A' d.U.length c')).setCell ⟨w.heap.size+1+1,4,none⟩ (.int .u64 (d.last:Nat)))=wC at *
 obtain⟨v0,v1,v2,v3,v4⟩:=AD bC
 refine bodyPost_ret (v:=.tuple #[.agg #[.string d.name,.int .i64 d.st,.slice A d.L.length c,.slice A' d.U.length c',.int .u64 (d.last:Nat)],.int .i64 (k:Nat)]) ?_ rfl ⟨A,c,A',c',rfl,vC,qC⟩
 rw [results_cell_tmp rfl]
 go_simp
theorem Nc(w1:World)(p:Nat)(b:Bkt)(key data:ByteArray)(tm:Int)(B0 B1 B2:Nat)(d:Bkt)(n t:Nat)(s:ByteArray)(k:Nat)(hg:ID b key data tm d n t s k)(hs:smE b.L)(hu:smL b.U)(hk:key.size≤1000)(hd:data.size≤maxLen)(tl : -9223372036854775808≤tm)(tu:tm≤9223372036854775807)(H:Wk w1 p b 0 0 noS)(c00:w1.cell? ⟨B0,0,none⟩=some (.string key))(c10:w1.cell? ⟨B1,0,none⟩=some (.string data))(c20:w1.cell? ⟨B2,0,none⟩=some (.int .i64 tm)):
  Calls Tryz.prog 68 #[.pointer (some ⟨p,0,none⟩),.pointer (some ⟨B0,0,none⟩),.pointer (some ⟨B1,0,none⟩),.pointer (some ⟨B2,0,none⟩)] w1 fun e w'=>e=.returned (.int .i64 (k:Nat))∧Wk w' p d n t s∧Kp p w1 w':=by
 obtain⟨g0,rfl,rfl⟩:=hg
 have C:=AC (JC w1 p b 0 0 noS key data tm d n k g0 hk (by decide) hd tl tu hs H)
 clear hs hu H g0
 go_enter Tryz.func68,Tryz.ntmps68
 go_wp2_with fail
 refine(C.out).mono ?_
 rintro e w2 ⟨rfl,k2,g2⟩
 have K:=AC (And.intro k2 g2)
 clear k2 g2
 go_wp2
 go_ret
 exact⟨rfl,K.out.1,K.out.2⟩
theorem Ru:∀ args w,(callFunc 68 args).run Tryz.prog w=.ok (.enter 68 args) w:=enters_of Tryz.func68 (by kernel_rfl) rfl
theorem EY(b:Bkt)(lv uv:Value)(w:World)(key data:ByteArray)(tm:Int)(d:Bkt)(n t:Nat)(s:ByteArray)(k:Nat)(hF:BC b (ID b key data tm) d n t s k)(hn:b.name.size≤1000)(hs:smE b.L)(hu:smL b.U)(hk:key.size≤1000)(hd:data.size≤maxLen)(tl : -9223372036854775808≤tm)(tu:tm≤9223372036854775807)(hv:BktV w b lv uv):
  Calls Tryz.prog 28 #[bkt b lv uv,.string key,.string data,.int .i64 tm] w fun e w'=>∃ A c A' c',e=.returned (.tuple #[bkt d (.slice A d.L.length c) (.slice A' d.U.length c'),.int .u64 (n:Nat),.int .i64 (k:Nat)])∧BktV w' d (.slice A d.L.length c) (.slice A' d.U.length c')∧Q w w':=by
 have hmf:=@HMF
 obtain⟨A0,c0,rfl⟩:=hv.1.form
 obtain⟨B0,d0,rfl⟩:=hv.2.form
 have q0:Q w (((((w.alloc (.cells (bcl b (.slice A0 b.L.length c0) (.slice B0 b.U.length d0)) 26)).alloc (.cells #[.string key] 9)).alloc (.cells #[.string data] 9)).alloc (.cells #[.int .i64 tm] 3)).alloc (.cells (bcl noB (.slice none 0 0) (.slice none 0 0)) 26)):=((((((Q.refl w).alloc _).alloc _).alloc _).alloc _).alloc _)
 have X0:=(((Bx.new (w.alloc (.cells (bcl b (.slice A0 b.L.length c0) (.slice B0 b.U.length d0)) 26)) 9 #[.string key]).alloc (.cells #[.string data] 9)).alloc (.cells #[.int .i64 tm] 3)).alloc (.cells (bcl noB (.slice none 0 0) (.slice none 0 0)) 26)
 have X1:=((Bx.new ((w.alloc (.cells (bcl b (.slice A0 b.L.length c0) (.slice B0 b.U.length d0)) 26)).alloc (.cells #[.string key] 9)) 9 #[.string data]).alloc (.cells #[.int .i64 tm] 3)).alloc (.cells (bcl noB (.slice none 0 0) (.slice none 0 0)) 26)
 have X2:=(Bx.new (((w.alloc (.cells (bcl b (.slice A0 b.L.length c0) (.slice B0 b.U.length d0)) 26)).alloc (.cells #[.string key] 9)).alloc (.cells #[.string data] 9)) 3 #[.int .i64 tm]).alloc (.cells (bcl noB (.slice none 0 0) (.slice none 0 0)) 26)
 have Y:=Bx.new ((((w.alloc (.cells (bcl b (.slice A0 b.L.length c0) (.slice B0 b.U.length d0)) 26)).alloc (.cells #[.string key] 9)).alloc (.cells #[.string data] 9)).alloc (.cells #[.int .i64 tm] 3)) 26 (bcl noB (.slice none 0 0) (.slice none 0 0))
 simp only [World.size_alloc] at X0 X1 X2 Y
 have x0:=X0
 have x1:=X1
 have x2:=X2
 have CH:=BM b (.slice A0 b.L.length c0) (.slice B0 b.U.length d0) (((((w.alloc (.cells (bcl b (.slice A0 b.L.length c0) (.slice B0 b.U.length d0)) 26)).alloc (.cells #[.string key] 9)).alloc (.cells #[.string data] 9)).alloc (.cells #[.int .i64 tm] 3)).alloc (.cells (bcl noB (.slice none 0 0) (.slice none 0 0)) 26)) 68 #[.pointer (some ⟨w.heap.size+1,0,none⟩),.pointer (some ⟨w.heap.size+1+1,0,none⟩),.pointer (some ⟨w.heap.size+1+1+1,0,none⟩)] Ru hn hs hu (hv.on q0) (ID b key data tm) d n t s k hF
  (fun d1 n1 t1 s1 h1 h2=>BV (Ek _ _ _ _ (Dl.1 h1).1 h2))
  (fun d1 n1 t1 s1 k1 hr w1 p hp qc K=>by
   skip
   exact Nc w1 p b key data tm (w.heap.size+1) (w.heap.size+1+1) (w.heap.size+1+1+1) d1 n1 t1 s1 k1 hr hs hu hk hd tl tu K (by rw [(x0.on qc).cell];rfl) (by rw [(x1.on qc).cell];rfl) (by rw [(x2.on qc).cell];rfl))
 have CHH:=AC CH
 have ZY:=AC Y
 clear CH hF hs hu hv Y X0 X1 X2 x0 x1 x2
 rw [bkt] at CHH
 rw [bkt]
 go_enter Tryz.func28,Tryz.ntmps28
 go_wp2_with fail
 refine(CHH.out).mono ?_
 rintro e w1 ⟨A,c,A',c',rfl,v1,q1⟩
 have y1:=ZY.out.on q1
 have x1:=(Q.refl w1).alloc (.cells (wcl d A c A' c' n t s) 109)
 have hne:w.heap.size+1+1+1+1≠w1.heap.size:=by have:=q1.size;simp at this;omega
 obtain⟨a0,a1,a2,a3,a4⟩:=AD y1
 obtain⟨f0,f1,f2,f3,f4⟩:=AF y1
 have KK:=AC (And.intro (y1.on x1) (And.intro (v1.on x1) ((q0.trans q1).trans x1)))
 clear y1 v1 x1 CHH ZY
 rw [wcl]
 go_upto_region 2 with fail
 rw [wcl] at KK
 obtain⟨wx,hwx⟩:∃ x,x=(w1.alloc (.cells #[.string d.name,.int .i64 d.st,.slice A d.L.length c,.slice A' d.U.length c',.int .u64 (d.last:Nat),.int .u64 (n:Nat),.int .u32 (t:Nat),.string s] 109)):=⟨_,rfl⟩
 have bx:Bx wx w1.heap.size 109 (wcl d A c A' c' n t s):=by rw [hwx];exact Bx.new _ _ _
 rw [← hwx] at KK ⊢
 clear hwx a0 a1 a2 a3 a4 f0 f1 f2 f3 f4
 obtain⟨e0,e1,e2,e3,e4,e5,e6,e7⟩:=(AO bx).1
 obtain⟨a0,a1,a2,a3,a4⟩:=AD KK.out.1
 obtain⟨f0,f1,f2,f3,f4⟩:=AF KK.out.1
 clear bx
 go_region
 go_wp2
 (try simp only [Exit.inBlock,Exit.then])
 have gC:=(((((Kp.of (p:=w.heap.size+1+1+1+1) (Q.refl wx)).set 0 (.string d.name)).set 1 (.int .i64 d.st)).set 2 (.slice A d.L.length c)).set 3 (.slice A' d.U.length c')).set 4 (.int .u64 (d.last:Nat))
 have bC:=AM (b:=d) (lv:=.slice A d.L.length c) (uv:=.slice A' d.U.length c') KK.out.1
 have qC:=gC.q KK.out.2.2 (by omega)
 have vC:=KK.out.2.1.kp (AI KK.out.1) gC
 generalize (((((wx.setCell ⟨w.heap.size+1+1+1+1,0,none⟩ (.string d.name)).setCell ⟨w.heap.size+1+1+1+1,1,none⟩ (.int .i64 d.st)).setCell ⟨w.heap.size+1+1+1+1,2,none⟩ (.slice A d.L.length c)).setCell ⟨w.heap.size+1+1+1+1,3,none⟩ (.slice A' d.U.length c')).setCell ⟨w.heap.size+1+1+1+1,4,none⟩ (.int .u64 (d.last:Nat)))=wC at *
 obtain⟨v0,v1,v2,v3,v4⟩:=AD bC
 refine bodyPost_ret (v:=.tuple #[.agg #[.string d.name,.int .i64 d.st,.slice A d.L.length c,.slice A' d.U.length c',.int .u64 (d.last:Nat)],.int .u64 (n:Nat),.int .i64 (k:Nat)]) ?_ rfl ⟨A,c,A',c',rfl,vC.on (Q.refl _).drew,qC.drew⟩
 simp [results,Tryz.results28,go_sem,v0,v1,v2,v3,v4]
theorem LE(w1:World)(p:Nat)(b:Bkt)(key:ByteArray)(id:Nat)(B0 B1:Nat)(d:Bkt)(n t:Nat)(s:ByteArray)(k:Nat)(hg:FP b key id d n t s k)(hs:smE b.L)(hu:smL b.U)(hk:key.size≤1000)(H:Wk w1 p b 0 0 noS)(c00:w1.cell? ⟨B0,0,none⟩=some (.string key))(c10:w1.cell? ⟨B1,0,none⟩=some (.int .u64 (id:Nat))):
  Calls Tryz.prog 76 #[.pointer (some ⟨p,0,none⟩),.pointer (some ⟨B0,0,none⟩),.pointer (some ⟨B1,0,none⟩)] w1 fun e w'=>e=.returned (.int .i64 (k:Nat))∧Wk w' p d n t s∧Kp p w1 w':=by
 obtain⟨g0,rfl,rfl,rfl⟩:=hg
 have C:=AC (Lr w1 p b 0 0 noS key id d k g0 hk hs H)
 clear hs hu H g0
 go_enter Tryz.func76,Tryz.ntmps76
 go_wp2_with fail
 refine(C.out).mono ?_
 rintro e w2 ⟨rfl,k2,g2⟩
 have K:=AC (And.intro k2 g2)
 clear k2 g2
 go_wp2
 go_ret
 exact⟨rfl,K.out.1,K.out.2⟩
theorem P5:∀ args w,(callFunc 76 args).run Tryz.prog w=.ok (.enter 76 args) w:=enters_of Tryz.func76 (by kernel_rfl) rfl
theorem IA(b:Bkt)(lv uv:Value)(w:World)(key:ByteArray)(id:Nat)(d:Bkt)(n t:Nat)(s:ByteArray)(k:Nat)(hF:BC b (FP b key id) d n t s k)(hn:b.name.size≤1000)(hs:smE b.L)(hu:smL b.U)(hk:key.size≤1000)(hv:BktV w b lv uv):
  Calls Tryz.prog 33 #[bkt b lv uv,.string key,.int .u64 (id:Nat)] w fun e w'=>∃ A c A' c',e=.returned (.tuple #[bkt d (.slice A d.L.length c) (.slice A' d.U.length c'),.int .i64 (k:Nat)])∧BktV w' d (.slice A d.L.length c) (.slice A' d.U.length c')∧Q w w':=by
 have hmf:=@HMF
 obtain⟨A0,c0,rfl⟩:=hv.1.form
 obtain⟨B0,d0,rfl⟩:=hv.2.form
 have q0:Q w ((((w.alloc (.cells (bcl b (.slice A0 b.L.length c0) (.slice B0 b.U.length d0)) 26)).alloc (.cells #[.string key] 9)).alloc (.cells #[.int .u64 (id:Nat)] 24)).alloc (.cells (bcl noB (.slice none 0 0) (.slice none 0 0)) 26)):=(((((Q.refl w).alloc _).alloc _).alloc _).alloc _)
 have X0:=((Bx.new (w.alloc (.cells (bcl b (.slice A0 b.L.length c0) (.slice B0 b.U.length d0)) 26)) 9 #[.string key]).alloc (.cells #[.int .u64 (id:Nat)] 24)).alloc (.cells (bcl noB (.slice none 0 0) (.slice none 0 0)) 26)
 have X1:=(Bx.new ((w.alloc (.cells (bcl b (.slice A0 b.L.length c0) (.slice B0 b.U.length d0)) 26)).alloc (.cells #[.string key] 9)) 24 #[.int .u64 (id:Nat)]).alloc (.cells (bcl noB (.slice none 0 0) (.slice none 0 0)) 26)
 have Y:=Bx.new (((w.alloc (.cells (bcl b (.slice A0 b.L.length c0) (.slice B0 b.U.length d0)) 26)).alloc (.cells #[.string key] 9)).alloc (.cells #[.int .u64 (id:Nat)] 24)) 26 (bcl noB (.slice none 0 0) (.slice none 0 0))
 simp only [World.size_alloc] at X0 X1 Y
 have x0:=X0
 have x1:=X1
 have CH:=BM b (.slice A0 b.L.length c0) (.slice B0 b.U.length d0) ((((w.alloc (.cells (bcl b (.slice A0 b.L.length c0) (.slice B0 b.U.length d0)) 26)).alloc (.cells #[.string key] 9)).alloc (.cells #[.int .u64 (id:Nat)] 24)).alloc (.cells (bcl noB (.slice none 0 0) (.slice none 0 0)) 26)) 76 #[.pointer (some ⟨w.heap.size+1,0,none⟩),.pointer (some ⟨w.heap.size+1+1,0,none⟩)] P5 hn hs hu (hv.on q0) (FP b key id) d n t s k hF
  (fun d1 n1 t1 s1 h1 h2=>BV (Gb _ _ _ _ (Dl.1 h1).1 h2))
  (fun d1 n1 t1 s1 k1 hr w1 p hp qc K=>by
   skip
   exact LE w1 p b key id (w.heap.size+1) (w.heap.size+1+1) d1 n1 t1 s1 k1 hr hs hu hk K (by rw [(x0.on qc).cell];rfl) (by rw [(x1.on qc).cell];rfl))
 have CHH:=AC CH
 have ZY:=AC Y
 clear CH hF hs hu hv Y X0 X1 x0 x1
 rw [bkt] at CHH
 rw [bkt]
 go_enter Tryz.func33,Tryz.ntmps33
 go_wp2_with fail
 refine(CHH.out).mono ?_
 rintro e w1 ⟨A,c,A',c',rfl,v1,q1⟩
 have y1:=ZY.out.on q1
 have x1:=(Q.refl w1).alloc (.cells (wcl d A c A' c' n t s) 109)
 have hne:w.heap.size+1+1+1≠w1.heap.size:=by have:=q1.size;simp at this;omega
 obtain⟨a0,a1,a2,a3,a4⟩:=AD y1
 obtain⟨f0,f1,f2,f3,f4⟩:=AF y1
 have KK:=AC (And.intro (y1.on x1) (And.intro (v1.on x1) ((q0.trans q1).trans x1)))
 clear y1 v1 x1 CHH ZY
 rw [wcl]
 go_upto_region 2 with fail
 rw [wcl] at KK
 obtain⟨wx,hwx⟩:∃ x,x=(w1.alloc (.cells #[.string d.name,.int .i64 d.st,.slice A d.L.length c,.slice A' d.U.length c',.int .u64 (d.last:Nat),.int .u64 (n:Nat),.int .u32 (t:Nat),.string s] 109)):=⟨_,rfl⟩
 have bx:Bx wx w1.heap.size 109 (wcl d A c A' c' n t s):=by rw [hwx];exact Bx.new _ _ _
 rw [← hwx] at KK ⊢
 clear hwx a0 a1 a2 a3 a4 f0 f1 f2 f3 f4
 obtain⟨e0,e1,e2,e3,e4,e5,e6,e7⟩:=(AO bx).1
 obtain⟨a0,a1,a2,a3,a4⟩:=AD KK.out.1
 obtain⟨f0,f1,f2,f3,f4⟩:=AF KK.out.1
 clear bx
 go_wp2
 (try simp only [Exit.inBlock,Exit.then])
 have gC:=(((((Kp.of (p:=w.heap.size+1+1+1) (Q.refl wx)).set 0 (.string d.name)).set 1 (.int .i64 d.st)).set 2 (.slice A d.L.length c)).set 3 (.slice A' d.U.length c')).set 4 (.int .u64 (d.last:Nat))
 have bC:=AM (b:=d) (lv:=.slice A d.L.length c) (uv:=.slice A' d.U.length c') KK.out.1
 have qC:=gC.q KK.out.2.2 (by omega)
 have vC:=KK.out.2.1.kp (AI KK.out.1) gC
 generalize (((((wx.setCell ⟨w.heap.size+1+1+1,0,none⟩ (.string d.name)).setCell ⟨w.heap.size+1+1+1,1,none⟩ (.int .i64 d.st)).setCell ⟨w.heap.size+1+1+1,2,none⟩ (.slice A d.L.length c)).setCell ⟨w.heap.size+1+1+1,3,none⟩ (.slice A' d.U.length c')).setCell ⟨w.heap.size+1+1+1,4,none⟩ (.int .u64 (d.last:Nat)))=wC at *
 obtain⟨v0,v1,v2,v3,v4⟩:=AD bC
 refine bodyPost_ret (v:=.tuple #[.agg #[.string d.name,.int .i64 d.st,.slice A d.L.length c,.slice A' d.U.length c',.int .u64 (d.last:Nat)],.int .i64 (k:Nat)]) ?_ rfl ⟨A,c,A',c',rfl,vC,qC⟩
 rw [results_cell_tmp rfl]
 go_simp
theorem I7(w1:World)(p:Nat)(b:Bkt)(id:Nat)(B0:Nat)(d:Bkt)(n t:Nat)(s:ByteArray)(k:Nat)(hg:Lc b id d n t s k)(hs:smE b.L)(hu:smL b.U)  (H:Wk w1 p b 0 0 noS) (c00:w1.cell? ⟨B0,0,none⟩=some (.int .u64 (id:Nat))) :
  Calls Tryz.prog 78 #[.pointer (some ⟨p,0,none⟩),.pointer (some ⟨B0,0,none⟩)] w1 fun e w'=>e=.returned (.int .i64 (k:Nat))∧Wk w' p d n t s∧Kp p w1 w':=by
 obtain⟨g0,rfl,rfl,rfl⟩:=hg
 have C:=AC (OX w1 p b 0 0 noS id d k g0 hu H)
 clear hs hu H g0
 go_enter Tryz.func78,Tryz.ntmps78
 go_wp2_with fail
 refine(C.out).mono ?_
 rintro e w2 ⟨rfl,k2,g2⟩
 have K:=AC (And.intro k2 g2)
 clear k2 g2
 go_wp2
 go_ret
 exact⟨rfl,K.out.1,K.out.2⟩
theorem NR:∀ args w,(callFunc 78 args).run Tryz.prog w=.ok (.enter 78 args) w:=enters_of Tryz.func78 (by kernel_rfl) rfl
theorem LY(b:Bkt)(lv uv:Value)(w:World)(id:Nat)(d:Bkt)(n t:Nat)(s:ByteArray)(k:Nat)(hF:BC b (Lc b id) d n t s k)(hn:b.name.size≤1000)(hs:smE b.L)(hu:smL b.U)  (hv:BktV w b lv uv) :
  Calls Tryz.prog 34 #[bkt b lv uv,.int .u64 (id:Nat)] w fun e w'=>∃ A c A' c',e=.returned (.tuple #[bkt d (.slice A d.L.length c) (.slice A' d.U.length c'),.int .i64 (k:Nat)])∧BktV w' d (.slice A d.L.length c) (.slice A' d.U.length c')∧Q w w':=by
 have hmf:=@HMF
 obtain⟨A0,c0,rfl⟩:=hv.1.form
 obtain⟨B0,d0,rfl⟩:=hv.2.form
 have q0:Q w (((w.alloc (.cells (bcl b (.slice A0 b.L.length c0) (.slice B0 b.U.length d0)) 26)).alloc (.cells #[.int .u64 (id:Nat)] 24)).alloc (.cells (bcl noB (.slice none 0 0) (.slice none 0 0)) 26)):=((((Q.refl w).alloc _).alloc _).alloc _)
 have X0:=(Bx.new (w.alloc (.cells (bcl b (.slice A0 b.L.length c0) (.slice B0 b.U.length d0)) 26)) 24 #[.int .u64 (id:Nat)]).alloc (.cells (bcl noB (.slice none 0 0) (.slice none 0 0)) 26)
 have Y:=Bx.new ((w.alloc (.cells (bcl b (.slice A0 b.L.length c0) (.slice B0 b.U.length d0)) 26)).alloc (.cells #[.int .u64 (id:Nat)] 24)) 26 (bcl noB (.slice none 0 0) (.slice none 0 0))
 simp only [World.size_alloc] at X0 Y
 have x0:=X0
 have CH:=BM b (.slice A0 b.L.length c0) (.slice B0 b.U.length d0) (((w.alloc (.cells (bcl b (.slice A0 b.L.length c0) (.slice B0 b.U.length d0)) 26)).alloc (.cells #[.int .u64 (id:Nat)] 24)).alloc (.cells (bcl noB (.slice none 0 0) (.slice none 0 0)) 26)) 78 #[.pointer (some ⟨w.heap.size+1,0,none⟩)] NR hn hs hu (hv.on q0) (Lc b id) d n t s k hF
  (fun d1 n1 t1 s1 h1 h2=>BV (Ny _ _ _ _ (Dl.1 h1).1 h2))
  (fun d1 n1 t1 s1 k1 hr w1 p hp qc K=>by
   skip
   exact I7 w1 p b id (w.heap.size+1) d1 n1 t1 s1 k1 hr hs hu  K (by rw [(x0.on qc).cell];rfl))
 have CHH:=AC CH
 have ZY:=AC Y
 clear CH hF hs hu hv Y X0 x0
 rw [bkt] at CHH
 rw [bkt]
 go_enter Tryz.func34,Tryz.ntmps34
 go_wp2_with fail
 refine(CHH.out).mono ?_
 rintro e w1 ⟨A,c,A',c',rfl,v1,q1⟩
 have y1:=ZY.out.on q1
 have x1:=(Q.refl w1).alloc (.cells (wcl d A c A' c' n t s) 109)
 have hne:w.heap.size+1+1≠w1.heap.size:=by have:=q1.size;simp at this;omega
 obtain⟨a0,a1,a2,a3,a4⟩:=AD y1
 obtain⟨f0,f1,f2,f3,f4⟩:=AF y1
 have KK:=AC (And.intro (y1.on x1) (And.intro (v1.on x1) ((q0.trans q1).trans x1)))
 clear y1 v1 x1 CHH ZY
 rw [wcl]
 go_upto_region 2 with fail
 rw [wcl] at KK
 obtain⟨wx,hwx⟩:∃ x,x=(w1.alloc (.cells #[.string d.name,.int .i64 d.st,.slice A d.L.length c,.slice A' d.U.length c',.int .u64 (d.last:Nat),.int .u64 (n:Nat),.int .u32 (t:Nat),.string s] 109)):=⟨_,rfl⟩
 have bx:Bx wx w1.heap.size 109 (wcl d A c A' c' n t s):=by rw [hwx];exact Bx.new _ _ _
 rw [← hwx] at KK ⊢
 clear hwx a0 a1 a2 a3 a4 f0 f1 f2 f3 f4
 obtain⟨e0,e1,e2,e3,e4,e5,e6,e7⟩:=(AO bx).1
 obtain⟨a0,a1,a2,a3,a4⟩:=AD KK.out.1
 obtain⟨f0,f1,f2,f3,f4⟩:=AF KK.out.1
 clear bx
 go_wp2
 (try simp only [Exit.inBlock,Exit.then])
 have gC:=(((((Kp.of (p:=w.heap.size+1+1) (Q.refl wx)).set 0 (.string d.name)).set 1 (.int .i64 d.st)).set 2 (.slice A d.L.length c)).set 3 (.slice A' d.U.length c')).set 4 (.int .u64 (d.last:Nat))
 have bC:=AM (b:=d) (lv:=.slice A d.L.length c) (uv:=.slice A' d.U.length c') KK.out.1
 have qC:=gC.q KK.out.2.2 (by omega)
 have vC:=KK.out.2.1.kp (AI KK.out.1) gC
 generalize (((((wx.setCell ⟨w.heap.size+1+1,0,none⟩ (.string d.name)).setCell ⟨w.heap.size+1+1,1,none⟩ (.int .i64 d.st)).setCell ⟨w.heap.size+1+1,2,none⟩ (.slice A d.L.length c)).setCell ⟨w.heap.size+1+1,3,none⟩ (.slice A' d.U.length c')).setCell ⟨w.heap.size+1+1,4,none⟩ (.int .u64 (d.last:Nat)))=wC at *
 obtain⟨v0,v1,v2,v3,v4⟩:=AD bC
 refine bodyPost_ret (v:=.tuple #[.agg #[.string d.name,.int .i64 d.st,.slice A d.L.length c,.slice A' d.U.length c',.int .u64 (d.last:Nat)],.int .i64 (k:Nat)]) ?_ rfl ⟨A,c,A',c',rfl,vC,qC⟩
 rw [results_cell_tmp rfl]
 go_simp
end
section
open Go.ChangeShapes Go.WideShapes Go.ChangeAt Go.RowKit Go.Shelf
theorem H1(w1:World)(p:Nat)(b:Bkt)(key:ByteArray)(tm:Int)(B0 B1:Nat)(d:Bkt)(n t:Nat)(s:ByteArray)(k:Nat)(hg:N2 b key tm d n t s k)(hs:smE b.L)(hu:smL b.U)(hk:key.size≤1000)(tl : -9223372036854775808≤tm)(tu:tm≤9223372036854775807)(H:Wk w1 p b 0 0 noS)(c00:w1.cell? ⟨B0,0,none⟩=some (.string key))(c10:w1.cell? ⟨B1,0,none⟩=some (.int .i64 tm)):
  Calls Tryz.prog 74 #[.pointer (some ⟨p,0,none⟩),.pointer (some ⟨B0,0,none⟩),.pointer (some ⟨B1,0,none⟩)] w1 fun e w'=>e=.returned (.int .i64 (k:Nat))∧Wk w' p d n t s∧Kp p w1 w':=by
 obtain⟨g0,rfl,rfl⟩:=hg
 have C:=AC (OU w1 p b 0 0 noS key tm d n k g0 hk (by decide) tl tu hs H)
 clear hs hu H g0
 go_enter Tryz.func74,Tryz.ntmps74
 go_wp2_with fail
 refine(C.out).mono ?_
 rintro e w2 ⟨rfl,k2,g2⟩
 have K:=AC (And.intro k2 g2)
 clear k2 g2
 go_wp2
 go_ret
 exact⟨rfl,K.out.1,K.out.2⟩
theorem Kx:∀ args w,(callFunc 74 args).run Tryz.prog w=.ok (.enter 74 args) w:=enters_of Tryz.func74 (by kernel_rfl) rfl
theorem DJ(b:Bkt)(lv uv:Value)(w:World)(key:ByteArray)(tm:Int)(d:Bkt)(n t:Nat)(s:ByteArray)(k:Nat)(hF:BC b (N2 b key tm) d n t s k)(hn:b.name.size≤1000)(hs:smE b.L)(hu:smL b.U)(hk:key.size≤1000)(tl : -9223372036854775808≤tm)(tu:tm≤9223372036854775807)(hv:BktV w b lv uv):
  Calls Tryz.prog 32 #[bkt b lv uv,.string key,.int .i64 tm] w fun e w'=>∃ A c A' c',e=.returned (.tuple #[bkt d (.slice A d.L.length c) (.slice A' d.U.length c'),.int .u64 (n:Nat),.int .i64 (k:Nat)])∧BktV w' d (.slice A d.L.length c) (.slice A' d.U.length c')∧Q w w':=by
 have hmf:=@HMF
 obtain⟨A0,c0,rfl⟩:=hv.1.form
 obtain⟨B0,d0,rfl⟩:=hv.2.form
 have q0:Q w ((((w.alloc (.cells (bcl b (.slice A0 b.L.length c0) (.slice B0 b.U.length d0)) 26)).alloc (.cells #[.string key] 9)).alloc (.cells #[.int .i64 tm] 3)).alloc (.cells (bcl noB (.slice none 0 0) (.slice none 0 0)) 26)):=(((((Q.refl w).alloc _).alloc _).alloc _).alloc _)
 have X0:=((Bx.new (w.alloc (.cells (bcl b (.slice A0 b.L.length c0) (.slice B0 b.U.length d0)) 26)) 9 #[.string key]).alloc (.cells #[.int .i64 tm] 3)).alloc (.cells (bcl noB (.slice none 0 0) (.slice none 0 0)) 26)
 have X1:=(Bx.new ((w.alloc (.cells (bcl b (.slice A0 b.L.length c0) (.slice B0 b.U.length d0)) 26)).alloc (.cells #[.string key] 9)) 3 #[.int .i64 tm]).alloc (.cells (bcl noB (.slice none 0 0) (.slice none 0 0)) 26)
 have Y:=Bx.new (((w.alloc (.cells (bcl b (.slice A0 b.L.length c0) (.slice B0 b.U.length d0)) 26)).alloc (.cells #[.string key] 9)).alloc (.cells #[.int .i64 tm] 3)) 26 (bcl noB (.slice none 0 0) (.slice none 0 0))
 simp only [World.size_alloc] at X0 X1 Y
 have x0:=X0
 have x1:=X1
 have CH:=BM b (.slice A0 b.L.length c0) (.slice B0 b.U.length d0) ((((w.alloc (.cells (bcl b (.slice A0 b.L.length c0) (.slice B0 b.U.length d0)) 26)).alloc (.cells #[.string key] 9)).alloc (.cells #[.int .i64 tm] 3)).alloc (.cells (bcl noB (.slice none 0 0) (.slice none 0 0)) 26)) 74 #[.pointer (some ⟨w.heap.size+1,0,none⟩),.pointer (some ⟨w.heap.size+1+1,0,none⟩)] Kx hn hs hu (hv.on q0) (N2 b key tm) d n t s k hF
  (fun d1 n1 t1 s1 h1 h2=>BV (I1 _ _ _ _ (Dl.1 h1).1 h2))
  (fun d1 n1 t1 s1 k1 hr w1 p hp qc K=>by
   skip
   exact H1 w1 p b key tm (w.heap.size+1) (w.heap.size+1+1) d1 n1 t1 s1 k1 hr hs hu hk tl tu K (by rw [(x0.on qc).cell];rfl) (by rw [(x1.on qc).cell];rfl))
 have CHH:=AC CH
 have ZY:=AC Y
 clear CH hF hs hu hv Y X0 X1 x0 x1
 rw [bkt] at CHH
 rw [bkt]
 go_enter Tryz.func32,Tryz.ntmps32
 go_wp2_with fail
 refine(CHH.out).mono ?_
 rintro e w1 ⟨A,c,A',c',rfl,v1,q1⟩
 have y1:=ZY.out.on q1
 have x1:=(Q.refl w1).alloc (.cells (wcl d A c A' c' n t s) 109)
 have hne:w.heap.size+1+1+1≠w1.heap.size:=by have:=q1.size;simp at this;omega
 obtain⟨a0,a1,a2,a3,a4⟩:=AD y1
 obtain⟨f0,f1,f2,f3,f4⟩:=AF y1
 have KK:=AC (And.intro (y1.on x1) (And.intro (v1.on x1) ((q0.trans q1).trans x1)))
 clear y1 v1 x1 CHH ZY
 rw [wcl]
 go_upto_region 2 with fail
 rw [wcl] at KK
 obtain⟨wx,hwx⟩:∃ x,x=(w1.alloc (.cells #[.string d.name,.int .i64 d.st,.slice A d.L.length c,.slice A' d.U.length c',.int .u64 (d.last:Nat),.int .u64 (n:Nat),.int .u32 (t:Nat),.string s] 109)):=⟨_,rfl⟩
 have bx:Bx wx w1.heap.size 109 (wcl d A c A' c' n t s):=by rw [hwx];exact Bx.new _ _ _
 rw [← hwx] at KK ⊢
 clear hwx a0 a1 a2 a3 a4 f0 f1 f2 f3 f4
 obtain⟨e0,e1,e2,e3,e4,e5,e6,e7⟩:=(AO bx).1
 obtain⟨a0,a1,a2,a3,a4⟩:=AD KK.out.1
 obtain⟨f0,f1,f2,f3,f4⟩:=AF KK.out.1
 clear bx
 go_region
 go_wp2
 (try simp only [Exit.inBlock,Exit.then])
 have gC:=(((((Kp.of (p:=w.heap.size+1+1+1) (Q.refl wx)).set 0 (.string d.name)).set 1 (.int .i64 d.st)).set 2 (.slice A d.L.length c)).set 3 (.slice A' d.U.length c')).set 4 (.int .u64 (d.last:Nat))
 have bC:=AM (b:=d) (lv:=.slice A d.L.length c) (uv:=.slice A' d.U.length c') KK.out.1
 have qC:=gC.q KK.out.2.2 (by omega)
 have vC:=KK.out.2.1.kp (AI KK.out.1) gC
 generalize (((((wx.setCell ⟨w.heap.size+1+1+1,0,none⟩ (.string d.name)).setCell ⟨w.heap.size+1+1+1,1,none⟩ (.int .i64 d.st)).setCell ⟨w.heap.size+1+1+1,2,none⟩ (.slice A d.L.length c)).setCell ⟨w.heap.size+1+1+1,3,none⟩ (.slice A' d.U.length c')).setCell ⟨w.heap.size+1+1+1,4,none⟩ (.int .u64 (d.last:Nat)))=wC at *
 obtain⟨v0,v1,v2,v3,v4⟩:=AD bC
 refine bodyPost_ret (v:=.tuple #[.agg #[.string d.name,.int .i64 d.st,.slice A d.L.length c,.slice A' d.U.length c',.int .u64 (d.last:Nat)],.int .u64 (n:Nat),.int .i64 (k:Nat)]) ?_ rfl ⟨A,c,A',c',rfl,vC.on (Q.refl _).drew,qC.drew⟩
 simp [results,Tryz.results32,go_sem,v0,v1,v2,v3,v4]
theorem I6(w1:World)(p:Nat)(b:Bkt)(key:ByteArray)(B0:Nat)(d:Bkt)(n t:Nat)(s:ByteArray)(k:Nat)(hg:N7 b key d n t s k)(hs:smE b.L)(hu:smL b.U)(hk:key.size≤1000)(H:Wk w1 p b 0 0 noS)(c00:w1.cell? ⟨B0,0,none⟩=some (.string key)):
  Calls Tryz.prog 60 #[.pointer (some ⟨p,0,none⟩),.pointer (some ⟨B0,0,none⟩)] w1 fun e w'=>e=.returned (.int .i64 (k:Nat))∧Wk w' p d n t s∧Kp p w1 w':=by
 obtain⟨g0,rfl,rfl⟩:=hg
 have C:=AC (OV w1 p b 0 0 noS key d n k g0 hk hu H)
 clear hs hu H g0
 go_enter Tryz.func60,Tryz.ntmps60
 go_wp2_with fail
 refine(C.out).mono ?_
 rintro e w2 ⟨rfl,k2,g2⟩
 have K:=AC (And.intro k2 g2)
 clear k2 g2
 go_wp2
 go_ret
 exact⟨rfl,K.out.1,K.out.2⟩
theorem NQ:∀ args w,(callFunc 60 args).run Tryz.prog w=.ok (.enter 60 args) w:=enters_of Tryz.func60 (by kernel_rfl) rfl
theorem F4(b:Bkt)(lv uv:Value)(w:World)(key:ByteArray)(d:Bkt)(n t:Nat)(s:ByteArray)(k:Nat)(hF:BC b (N7 b key) d n t s k)(hn:b.name.size≤1000)(hs:smE b.L)(hu:smL b.U)(hk:key.size≤1000)(hv:BktV w b lv uv):
  Calls Tryz.prog 23 #[bkt b lv uv,.string key] w fun e w'=>∃ A c A' c',e=.returned (.tuple #[bkt d (.slice A d.L.length c) (.slice A' d.U.length c'),.int .u64 (n:Nat),.int .i64 (k:Nat)])∧BktV w' d (.slice A d.L.length c) (.slice A' d.U.length c')∧Q w w':=by
 have hmf:=@HMF
 obtain⟨A0,c0,rfl⟩:=hv.1.form
 obtain⟨B0,d0,rfl⟩:=hv.2.form
 have q0:Q w (((w.alloc (.cells (bcl b (.slice A0 b.L.length c0) (.slice B0 b.U.length d0)) 26)).alloc (.cells #[.string key] 9)).alloc (.cells (bcl noB (.slice none 0 0) (.slice none 0 0)) 26)):=((((Q.refl w).alloc _).alloc _).alloc _)
 have X0:=(Bx.new (w.alloc (.cells (bcl b (.slice A0 b.L.length c0) (.slice B0 b.U.length d0)) 26)) 9 #[.string key]).alloc (.cells (bcl noB (.slice none 0 0) (.slice none 0 0)) 26)
 have Y:=Bx.new ((w.alloc (.cells (bcl b (.slice A0 b.L.length c0) (.slice B0 b.U.length d0)) 26)).alloc (.cells #[.string key] 9)) 26 (bcl noB (.slice none 0 0) (.slice none 0 0))
 simp only [World.size_alloc] at X0 Y
 have x0:=X0
 have CH:=BM b (.slice A0 b.L.length c0) (.slice B0 b.U.length d0) (((w.alloc (.cells (bcl b (.slice A0 b.L.length c0) (.slice B0 b.U.length d0)) 26)).alloc (.cells #[.string key] 9)).alloc (.cells (bcl noB (.slice none 0 0) (.slice none 0 0)) 26)) 60 #[.pointer (some ⟨w.heap.size+1,0,none⟩)] NQ hn hs hu (hv.on q0) (N7 b key) d n t s k hF
  (fun d1 n1 t1 s1 h1 h2=>BV (JA _ _ _ _ (Dl.1 h1).1 h2))
  (fun d1 n1 t1 s1 k1 hr w1 p hp qc K=>by
   skip
   exact I6 w1 p b key (w.heap.size+1) d1 n1 t1 s1 k1 hr hs hu hk K (by rw [(x0.on qc).cell];rfl))
 have CHH:=AC CH
 have ZY:=AC Y
 clear CH hF hs hu hv Y X0 x0
 rw [bkt] at CHH
 rw [bkt]
 go_enter Tryz.func23,Tryz.ntmps23
 go_wp2_with fail
 refine(CHH.out).mono ?_
 rintro e w1 ⟨A,c,A',c',rfl,v1,q1⟩
 have y1:=ZY.out.on q1
 have x1:=(Q.refl w1).alloc (.cells (wcl d A c A' c' n t s) 109)
 have hne:w.heap.size+1+1≠w1.heap.size:=by have:=q1.size;simp at this;omega
 obtain⟨a0,a1,a2,a3,a4⟩:=AD y1
 obtain⟨f0,f1,f2,f3,f4⟩:=AF y1
 have KK:=AC (And.intro (y1.on x1) (And.intro (v1.on x1) ((q0.trans q1).trans x1)))
 clear y1 v1 x1 CHH ZY
 rw [wcl]
 go_upto_region 2 with fail
 rw [wcl] at KK
 obtain⟨wx,hwx⟩:∃ x,x=(w1.alloc (.cells #[.string d.name,.int .i64 d.st,.slice A d.L.length c,.slice A' d.U.length c',.int .u64 (d.last:Nat),.int .u64 (n:Nat),.int .u32 (t:Nat),.string s] 109)):=⟨_,rfl⟩
 have bx:Bx wx w1.heap.size 109 (wcl d A c A' c' n t s):=by rw [hwx];exact Bx.new _ _ _
 rw [← hwx] at KK ⊢
 clear hwx a0 a1 a2 a3 a4 f0 f1 f2 f3 f4
 obtain⟨e0,e1,e2,e3,e4,e5,e6,e7⟩:=(AO bx).1
 obtain⟨a0,a1,a2,a3,a4⟩:=AD KK.out.1
 obtain⟨f0,f1,f2,f3,f4⟩:=AF KK.out.1
 clear bx
 go_region
 go_wp2
 (try simp only [Exit.inBlock,Exit.then])
 have gC:=(((((Kp.of (p:=w.heap.size+1+1) (Q.refl wx)).set 0 (.string d.name)).set 1 (.int .i64 d.st)).set 2 (.slice A d.L.length c)).set 3 (.slice A' d.U.length c')).set 4 (.int .u64 (d.last:Nat))
 have bC:=AM (b:=d) (lv:=.slice A d.L.length c) (uv:=.slice A' d.U.length c') KK.out.1
 have qC:=gC.q KK.out.2.2 (by omega)
 have vC:=KK.out.2.1.kp (AI KK.out.1) gC
 generalize (((((wx.setCell ⟨w.heap.size+1+1,0,none⟩ (.string d.name)).setCell ⟨w.heap.size+1+1,1,none⟩ (.int .i64 d.st)).setCell ⟨w.heap.size+1+1,2,none⟩ (.slice A d.L.length c)).setCell ⟨w.heap.size+1+1,3,none⟩ (.slice A' d.U.length c')).setCell ⟨w.heap.size+1+1,4,none⟩ (.int .u64 (d.last:Nat)))=wC at *
 obtain⟨v0,v1,v2,v3,v4⟩:=AD bC
 refine bodyPost_ret (v:=.tuple #[.agg #[.string d.name,.int .i64 d.st,.slice A d.L.length c,.slice A' d.U.length c',.int .u64 (d.last:Nat)],.int .u64 (n:Nat),.int .i64 (k:Nat)]) ?_ rfl ⟨A,c,A',c',rfl,vC.on (Q.refl _).drew,qC.drew⟩
 simp [results,Tryz.results23,go_sem,v0,v1,v2,v3,v4]
theorem Nd(w1:World)(p:Nat)(b:Bkt)(id:Nat)(x:Int)(y:ByteArray)(B0 B1:Nat)(d:Bkt)(n t:Nat)(s:ByteArray)(k:Nat)(hg:N1 b id ⟨x,y⟩ d n t s k)(hs:smE b.L)(hu:smL b.U)(hx:De ⟨x,y⟩)(H:Wk w1 p b 0 0 noS)(c00:w1.cell? ⟨B0,0,none⟩=some (.int .u64 (id:Nat)))(c10:w1.cell? ⟨B1,0,none⟩=some (.int .i64 x))(c11:w1.cell? ⟨B1,1,none⟩=some (.string y)):
  Calls Tryz.prog 62 #[.pointer (some ⟨p,0,none⟩),.pointer (some ⟨B0,0,none⟩),.pointer (some ⟨B1,0,none⟩)] w1 fun e w'=>e=.returned (.int .i64 (k:Nat))∧Wk w' p d n t s∧Kp p w1 w':=by
 obtain⟨g0,rfl,rfl⟩:=hg
 have C:=AC (OM w1 p b 0 0 noS id x y d t k g0 hx hu H)
 clear hs hu H g0
 go_enter Tryz.func62,Tryz.ntmps62
 go_wp2_with fail
 refine(C.out).mono ?_
 rintro e w2 ⟨rfl,k2,g2⟩
 have K:=AC (And.intro k2 g2)
 clear k2 g2
 go_wp2
 go_ret
 exact⟨rfl,K.out.1,K.out.2⟩
theorem Rv:∀ args w,(callFunc 62 args).run Tryz.prog w=.ok (.enter 62 args) w:=enters_of Tryz.func62 (by kernel_rfl) rfl
theorem Jx(b:Bkt)(lv uv:Value)(w:World)(id:Nat)(x:Int)(y:ByteArray)(d:Bkt)(n t:Nat)(s:ByteArray)(k:Nat)(hF:BC b (N1 b id ⟨x,y⟩) d n t s k)(hn:b.name.size≤1000)(hs:smE b.L)(hu:smL b.U)(hx:De ⟨x,y⟩)(hv:BktV w b lv uv):
  Calls Tryz.prog 24 #[bkt b lv uv,.int .u64 (id:Nat),.agg #[.int .i64 x,.string y]] w fun e w'=>∃ A c A' c',e=.returned (.tuple #[bkt d (.slice A d.L.length c) (.slice A' d.U.length c'),.int .u32 (t:Nat),.int .i64 (k:Nat)])∧BktV w' d (.slice A d.L.length c) (.slice A' d.U.length c')∧Q w w':=by
 have hmf:=@HMF
 obtain⟨A0,c0,rfl⟩:=hv.1.form
 obtain⟨B0,d0,rfl⟩:=hv.2.form
 have q0:Q w ((((w.alloc (.cells (bcl b (.slice A0 b.L.length c0) (.slice B0 b.U.length d0)) 26)).alloc (.cells #[.int .u64 (id:Nat)] 24)).alloc (.cells #[.int .i64 x,.string y] 64)).alloc (.cells (bcl noB (.slice none 0 0) (.slice none 0 0)) 26)):=(((((Q.refl w).alloc _).alloc _).alloc _).alloc _)
 have X0:=((Bx.new (w.alloc (.cells (bcl b (.slice A0 b.L.length c0) (.slice B0 b.U.length d0)) 26)) 24 #[.int .u64 (id:Nat)]).alloc (.cells #[.int .i64 x,.string y] 64)).alloc (.cells (bcl noB (.slice none 0 0) (.slice none 0 0)) 26)
 have X1:=(Bx.new ((w.alloc (.cells (bcl b (.slice A0 b.L.length c0) (.slice B0 b.U.length d0)) 26)).alloc (.cells #[.int .u64 (id:Nat)] 24)) 64 #[.int .i64 x,.string y]).alloc (.cells (bcl noB (.slice none 0 0) (.slice none 0 0)) 26)
 have Y:=Bx.new (((w.alloc (.cells (bcl b (.slice A0 b.L.length c0) (.slice B0 b.U.length d0)) 26)).alloc (.cells #[.int .u64 (id:Nat)] 24)).alloc (.cells #[.int .i64 x,.string y] 64)) 26 (bcl noB (.slice none 0 0) (.slice none 0 0))
 simp only [World.size_alloc] at X0 X1 Y
 have x0:=X0
 have x1:=X1
 have CH:=BM b (.slice A0 b.L.length c0) (.slice B0 b.U.length d0) ((((w.alloc (.cells (bcl b (.slice A0 b.L.length c0) (.slice B0 b.U.length d0)) 26)).alloc (.cells #[.int .u64 (id:Nat)] 24)).alloc (.cells #[.int .i64 x,.string y] 64)).alloc (.cells (bcl noB (.slice none 0 0) (.slice none 0 0)) 26)) 62 #[.pointer (some ⟨w.heap.size+1,0,none⟩),.pointer (some ⟨w.heap.size+1+1,0,none⟩)] Rv hn hs hu (hv.on q0) (N1 b id ⟨x,y⟩) d n t s k hF
  (fun d1 n1 t1 s1 h1 h2=>BV (It _ _ _ _ (Dl.1 h1).1 h2))
  (fun d1 n1 t1 s1 k1 hr w1 p hp qc K=>by
   skip
   exact Nd w1 p b id x y (w.heap.size+1) (w.heap.size+1+1) d1 n1 t1 s1 k1 hr hs hu hx K (by rw [(x0.on qc).cell];rfl) (by rw [(x1.on qc).cell];rfl) (by rw [(x1.on qc).cell];rfl))
 have CHH:=AC CH
 have ZY:=AC Y
 clear CH hF hs hu hv Y X0 X1 x0 x1
 rw [bkt] at CHH
 rw [bkt]
 go_enter Tryz.func24,Tryz.ntmps24
 go_wp2_with fail
 refine(CHH.out).mono ?_
 rintro e w1 ⟨A,c,A',c',rfl,v1,q1⟩
 have y1:=ZY.out.on q1
 have x1:=(Q.refl w1).alloc (.cells (wcl d A c A' c' n t s) 109)
 have hne:w.heap.size+1+1+1≠w1.heap.size:=by have:=q1.size;simp at this;omega
 obtain⟨a0,a1,a2,a3,a4⟩:=AD y1
 obtain⟨f0,f1,f2,f3,f4⟩:=AF y1
 have KK:=AC (And.intro (y1.on x1) (And.intro (v1.on x1) ((q0.trans q1).trans x1)))
 clear y1 v1 x1 CHH ZY
 rw [wcl]
 go_upto_region 2 with fail
 rw [wcl] at KK
 obtain⟨wx,hwx⟩:∃ x,x=(w1.alloc (.cells #[.string d.name,.int .i64 d.st,.slice A d.L.length c,.slice A' d.U.length c',.int .u64 (d.last:Nat),.int .u64 (n:Nat),.int .u32 (t:Nat),.string s] 109)):=⟨_,rfl⟩
 have bx:Bx wx w1.heap.size 109 (wcl d A c A' c' n t s):=by rw [hwx];exact Bx.new _ _ _
 rw [← hwx] at KK ⊢
 clear hwx a0 a1 a2 a3 a4 f0 f1 f2 f3 f4
 obtain⟨e0,e1,e2,e3,e4,e5,e6,e7⟩:=(AO bx).1
 obtain⟨a0,a1,a2,a3,a4⟩:=AD KK.out.1
 obtain⟨f0,f1,f2,f3,f4⟩:=AF KK.out.1
 clear bx
 go_region
 go_wp2
 (try simp only [Exit.inBlock,Exit.then])
 have gC:=(((((Kp.of (p:=w.heap.size+1+1+1) (Q.refl wx)).set 0 (.string d.name)).set 1 (.int .i64 d.st)).set 2 (.slice A d.L.length c)).set 3 (.slice A' d.U.length c')).set 4 (.int .u64 (d.last:Nat))
 have bC:=AM (b:=d) (lv:=.slice A d.L.length c) (uv:=.slice A' d.U.length c') KK.out.1
 have qC:=gC.q KK.out.2.2 (by omega)
 have vC:=KK.out.2.1.kp (AI KK.out.1) gC
 generalize (((((wx.setCell ⟨w.heap.size+1+1+1,0,none⟩ (.string d.name)).setCell ⟨w.heap.size+1+1+1,1,none⟩ (.int .i64 d.st)).setCell ⟨w.heap.size+1+1+1,2,none⟩ (.slice A d.L.length c)).setCell ⟨w.heap.size+1+1+1,3,none⟩ (.slice A' d.U.length c')).setCell ⟨w.heap.size+1+1+1,4,none⟩ (.int .u64 (d.last:Nat)))=wC at *
 obtain⟨v0,v1,v2,v3,v4⟩:=AD bC
 refine bodyPost_ret (v:=.tuple #[.agg #[.string d.name,.int .i64 d.st,.slice A d.L.length c,.slice A' d.U.length c',.int .u64 (d.last:Nat)],.int .u32 (t:Nat),.int .i64 (k:Nat)]) ?_ rfl ⟨A,c,A',c',rfl,vC.on (Q.refl _).drew,qC.drew⟩
 simp [results,Tryz.results24,go_sem,v0,v1,v2,v3,v4]
theorem I5(w1:World)(p:Nat)(b:Bkt)(id:Nat)(P:List Pce)(Az:Option Addr)(cz:Nat)(tm:Int)(B0 B1 B2:Nat)(d:Bkt)(n t:Nat)(s:ByteArray)(k:Nat)(hg:Nz b id P tm d n t s k)(hs:smE b.L)(hu:smL b.U)(hP:P.length≤1000)(tl : -9223372036854775808≤tm)(tu:tm≤9223372036854775807)(hz:Pces w1 w1.heap.size (.slice Az P.length cz) P)(H:Wk w1 p b 0 0 noS)(c00:w1.cell? ⟨B0,0,none⟩=some (.int .u64 (id:Nat)))(c10:w1.cell? ⟨B1,0,none⟩=some (.slice Az P.length cz))(c20:w1.cell? ⟨B2,0,none⟩=some (.int .i64 tm)):
  Calls Tryz.prog 65 #[.pointer (some ⟨p,0,none⟩),.pointer (some ⟨B0,0,none⟩),.pointer (some ⟨B1,0,none⟩),.pointer (some ⟨B2,0,none⟩)] w1 fun e w'=>e=.returned (.int .i64 (k:Nat))∧Wk w' p d n t s∧Kp p w1 w':=by
 obtain⟨g0,rfl⟩:=hg
 have C:=AC (OH w1 p b 0 0 id P (.slice Az P.length cz) tm d n s k g0 (by decide) tl tu hs hu hP hz H)
 clear hs hu H g0
 go_enter Tryz.func65,Tryz.ntmps65
 go_wp2_with fail
 refine(C.out).mono ?_
 rintro e w2 ⟨rfl,k2,g2⟩
 have K:=AC (And.intro k2 g2)
 clear k2 g2
 go_wp2
 go_ret
 exact⟨rfl,K.out.1,K.out.2⟩
theorem NP:∀ args w,(callFunc 65 args).run Tryz.prog w=.ok (.enter 65 args) w:=enters_of Tryz.func65 (by kernel_rfl) rfl
theorem F3(b:Bkt)(lv uv:Value)(w:World)(id:Nat)(P:List Pce)(Az:Option Addr)(cz:Nat)(tm:Int)(d:Bkt)(n t:Nat)(s:ByteArray)(k:Nat)(hF:BC b (Nz b id P tm) d n t s k)(hn:b.name.size≤1000)(hs:smE b.L)(hu:smL b.U)(hP:P.length≤1000)(tl : -9223372036854775808≤tm)(tu:tm≤9223372036854775807)(hz:Pces w w.heap.size (.slice Az P.length cz) P)(hv:BktV w b lv uv):
  Calls Tryz.prog 26 #[bkt b lv uv,.int .u64 (id:Nat),.slice Az P.length cz,.int .i64 tm] w fun e w'=>∃ A c A' c',e=.returned (.tuple #[bkt d (.slice A d.L.length c) (.slice A' d.U.length c'),.int .u64 (n:Nat),.string s,.int .i64 (k:Nat)])∧BktV w' d (.slice A d.L.length c) (.slice A' d.U.length c')∧Q w w':=by
 have hmf:=@HMF
 obtain⟨A0,c0,rfl⟩:=hv.1.form
 obtain⟨B0,d0,rfl⟩:=hv.2.form
 have q0:Q w (((((w.alloc (.cells (bcl b (.slice A0 b.L.length c0) (.slice B0 b.U.length d0)) 26)).alloc (.cells #[.int .u64 (id:Nat)] 24)).alloc (.cells #[.slice Az P.length cz] 27)).alloc (.cells #[.int .i64 tm] 3)).alloc (.cells (bcl noB (.slice none 0 0) (.slice none 0 0)) 26)):=((((((Q.refl w).alloc _).alloc _).alloc _).alloc _).alloc _)
 have X0:=(((Bx.new (w.alloc (.cells (bcl b (.slice A0 b.L.length c0) (.slice B0 b.U.length d0)) 26)) 24 #[.int .u64 (id:Nat)]).alloc (.cells #[.slice Az P.length cz] 27)).alloc (.cells #[.int .i64 tm] 3)).alloc (.cells (bcl noB (.slice none 0 0) (.slice none 0 0)) 26)
 have X1:=((Bx.new ((w.alloc (.cells (bcl b (.slice A0 b.L.length c0) (.slice B0 b.U.length d0)) 26)).alloc (.cells #[.int .u64 (id:Nat)] 24)) 27 #[.slice Az P.length cz]).alloc (.cells #[.int .i64 tm] 3)).alloc (.cells (bcl noB (.slice none 0 0) (.slice none 0 0)) 26)
 have X2:=(Bx.new (((w.alloc (.cells (bcl b (.slice A0 b.L.length c0) (.slice B0 b.U.length d0)) 26)).alloc (.cells #[.int .u64 (id:Nat)] 24)).alloc (.cells #[.slice Az P.length cz] 27)) 3 #[.int .i64 tm]).alloc (.cells (bcl noB (.slice none 0 0) (.slice none 0 0)) 26)
 have Y:=Bx.new ((((w.alloc (.cells (bcl b (.slice A0 b.L.length c0) (.slice B0 b.U.length d0)) 26)).alloc (.cells #[.int .u64 (id:Nat)] 24)).alloc (.cells #[.slice Az P.length cz] 27)).alloc (.cells #[.int .i64 tm] 3)) 26 (bcl noB (.slice none 0 0) (.slice none 0 0))
 simp only [World.size_alloc] at X0 X1 X2 Y
 have x0:=X0
 have x1:=X1
 have x2:=X2
 have HZ:=AC hz
 have CH:=BM b (.slice A0 b.L.length c0) (.slice B0 b.U.length d0) (((((w.alloc (.cells (bcl b (.slice A0 b.L.length c0) (.slice B0 b.U.length d0)) 26)).alloc (.cells #[.int .u64 (id:Nat)] 24)).alloc (.cells #[.slice Az P.length cz] 27)).alloc (.cells #[.int .i64 tm] 3)).alloc (.cells (bcl noB (.slice none 0 0) (.slice none 0 0)) 26)) 65 #[.pointer (some ⟨w.heap.size+1,0,none⟩),.pointer (some ⟨w.heap.size+1+1,0,none⟩),.pointer (some ⟨w.heap.size+1+1+1,0,none⟩)] NP hn hs hu (hv.on q0) (Nz b id P tm) d n t s k hF
  (fun d1 n1 t1 s1 h1 h2=>BV (IL _ _ _ _ (Dl.1 h1).1 h2))
  (fun d1 n1 t1 s1 k1 hr w1 p hp qc K=>by
   skip
   exact I5 w1 p b id P Az cz tm (w.heap.size+1) (w.heap.size+1+1) (w.heap.size+1+1+1) d1 n1 t1 s1 k1 hr hs hu hP tl tu (HZ.out.on (q0.trans qc)) K (by rw [(x0.on qc).cell];rfl) (by rw [(x1.on qc).cell];rfl) (by rw [(x2.on qc).cell];rfl))
 have CHH:=AC CH
 have ZY:=AC Y
 clear CH hF hs hu hv Y X0 X1 X2 x0 x1 x2
 rw [bkt] at CHH
 rw [bkt]
 go_enter Tryz.func26,Tryz.ntmps26
 go_wp2_with fail
 refine(CHH.out).mono ?_
 rintro e w1 ⟨A,c,A',c',rfl,v1,q1⟩
 have y1:=ZY.out.on q1
 have x1:=(Q.refl w1).alloc (.cells (wcl d A c A' c' n t s) 109)
 have hne:w.heap.size+1+1+1+1≠w1.heap.size:=by have:=q1.size;simp at this;omega
 obtain⟨a0,a1,a2,a3,a4⟩:=AD y1
 obtain⟨f0,f1,f2,f3,f4⟩:=AF y1
 have KK:=AC (And.intro (y1.on x1) (And.intro (v1.on x1) ((q0.trans q1).trans x1)))
 clear y1 v1 x1 CHH ZY
 rw [wcl]
 go_upto_region 2 with fail
 rw [wcl] at KK
 obtain⟨wx,hwx⟩:∃ x,x=(w1.alloc (.cells #[.string d.name,.int .i64 d.st,.slice A d.L.length c,.slice A' d.U.length c',.int .u64 (d.last:Nat),.int .u64 (n:Nat),.int .u32 (t:Nat),.string s] 109)):=⟨_,rfl⟩
 have bx:Bx wx w1.heap.size 109 (wcl d A c A' c' n t s):=by rw [hwx];exact Bx.new _ _ _
 rw [← hwx] at KK ⊢
 clear hwx a0 a1 a2 a3 a4 f0 f1 f2 f3 f4
 obtain⟨e0,e1,e2,e3,e4,e5,e6,e7⟩:=(AO bx).1
 obtain⟨a0,a1,a2,a3,a4⟩:=AD KK.out.1
 obtain⟨f0,f1,f2,f3,f4⟩:=AF KK.out.1
 clear bx
 go_region
 go_wp2
 (try simp only [Exit.inBlock,Exit.then])
 have gC:=(((((Kp.of (p:=w.heap.size+1+1+1+1) (Q.refl wx)).set 0 (.string d.name)).set 1 (.int .i64 d.st)).set 2 (.slice A d.L.length c)).set 3 (.slice A' d.U.length c')).set 4 (.int .u64 (d.last:Nat))
 have bC:=AM (b:=d) (lv:=.slice A d.L.length c) (uv:=.slice A' d.U.length c') KK.out.1
 have qC:=gC.q KK.out.2.2 (by omega)
 have vC:=KK.out.2.1.kp (AI KK.out.1) gC
 generalize (((((wx.setCell ⟨w.heap.size+1+1+1+1,0,none⟩ (.string d.name)).setCell ⟨w.heap.size+1+1+1+1,1,none⟩ (.int .i64 d.st)).setCell ⟨w.heap.size+1+1+1+1,2,none⟩ (.slice A d.L.length c)).setCell ⟨w.heap.size+1+1+1+1,3,none⟩ (.slice A' d.U.length c')).setCell ⟨w.heap.size+1+1+1+1,4,none⟩ (.int .u64 (d.last:Nat)))=wC at *
 obtain⟨v0,v1,v2,v3,v4⟩:=AD bC
 refine bodyPost_ret (v:=.tuple #[.agg #[.string d.name,.int .i64 d.st,.slice A d.L.length c,.slice A' d.U.length c',.int .u64 (d.last:Nat)],.int .u64 (n:Nat),.string s,.int .i64 (k:Nat)]) ?_ rfl ⟨A,c,A',c',rfl,vC.on (Q.refl _).drew,qC.drew⟩
 simp [results,Tryz.results26,go_sem,v0,v1,v2,v3,v4]
end
section
open Go.ChangeShapes Go.WideShapes Go.ChangeAt Go.RowKit Go.Shelf
theorem Jw{w:World}{p:Nat}{x0 x1 x2 x3:Value}(h:Bx w p 49 #[x0,x1,x2,x3]):
  (w.cell? ⟨p,0,none⟩=some x0∧w.cell? ⟨p,1,none⟩=some x1∧w.cell? ⟨p,2,none⟩=some x2∧w.cell? ⟨p,3,none⟩=some x3)∧(w.frozen? ⟨p,0,none⟩=false∧w.frozen? ⟨p,1,none⟩=false∧w.frozen? ⟨p,2,none⟩=false∧w.frozen? ⟨p,3,none⟩=false):=by
 refine⟨⟨?_,?_,?_,?_⟩,h.frozen 0,h.frozen 1,h.frozen 2,h.frozen 3⟩ <;> (rw [h.cell];rfl)
theorem Q4{w:World}{p:Nat}{x0 x1 x2 x3 y0 y1 y2 y3:Value}(h:Bx w p 49 #[x0,x1,x2,x3]):Bx ((((w.setCell ⟨p,0,none⟩ y0).setCell ⟨p,1,none⟩ y1).setCell ⟨p,2,none⟩ y2).setCell ⟨p,3,none⟩ y3) p 49 #[y0,y1,y2,y3]:=(((h.set 0 _).set 1 _).set 2 _).set 3 _
theorem Gq(b:Bkt)(lv uv:Value)(w:World)(key:ByteArray)(hb:okB b)(hky:BD 1 60 ko key=true)(hn:b.name.size≤1000)(hs:smE b.L)(hu:smL b.U)(hk:key.size≤1000)(hv:BktV w b lv uv):
  Calls Tryz.prog 27 #[bkt b lv uv,.string key] w fun e w'=>e=.returned (Iu (BY b.L key).head?)∧Q w w':=by
 have hR:Chk (okB b) true:=.inl ⟨rfl,hb⟩
 obtain⟨A0,c0,rfl⟩:=hv.1.form
 obtain⟨B0,d0,rfl⟩:=hv.2.form
 have q0:Q w ((w.alloc (.cells (bcl b (.slice A0 b.L.length c0) (.slice B0 b.U.length d0)) 26)).alloc (.cells #[.int .u64 0,.string ⟨#[]⟩,.bool false,.int .i64 0] 49)):=((Q.refl w).alloc _).alloc _
 have Y0:=(Bx.new w 26 (bcl b (.slice A0 b.L.length c0) (.slice B0 b.U.length d0))).alloc (.cells #[.int .u64 0,.string ⟨#[]⟩,.bool false,.int .i64 0] 49)
 have X0:=Bx.new (w.alloc (.cells (bcl b (.slice A0 b.L.length c0) (.slice B0 b.U.length d0)) 26)) 49 #[.int .u64 0,.string ⟨#[]⟩,.bool false,.int .i64 0]
 simp only [World.size_alloc] at X0
 have Y:=AC Y0
 have X:=AC X0
 have CK:=AC fun d (q:Q w d)=>BN b (.slice A0 b.L.length c0) (.slice B0 b.U.length d0) d true hR hn hs hu (hv.on q)
 have KY:=AC fun d=>Cn key d hk
 rw [bkt] at CK
 rw [bkt]
 rw [hky] at KY
 have okg:okP (BY b.L key):=Ps hb.2.2.2.1 key
 have okv:=CX key hv.1.okVs
 have hle:(BY b.L key).length≤900:=CB _ _ hs.2
 have IG:=AC fun d (q:Q w d)=>Jg b.L key (.slice A0 b.L.length c0) d hs.1 (hv.1.on q)
 obtain⟨fi,fd,fm,ft,fe,hfe⟩:=E6 (BY b.L key).head?
 have CG:Hid (∀ d u,Vers d d.heap.size u (BY b.L key)→Calls Tryz.prog 67 #[u] d fun e w'=>e=.returned (.tuple #[.agg #[.int .u64 (fi:Nat),.string fd,.bool fm,.int .i64 ft],.int .i64 fe])∧Q d w'):=AC fun d u hu=>by
  rw [← hfe];exact Rn (BY b.L key) u d okg (by omega) hu
 rw [hfe]
 have OKV:=AC okv
 clear hfe hR hb hky hn hs hu hk hv okg okv hle Y0 X0
 go_enter Tryz.func27,Tryz.ntmps27
 go_wp2_with fail
 refine(CK.out _ q0).mono ?_
 rintro e w1 ⟨rfl,q1⟩
 have qa:=q0.trans q1
 go_wp2_with fail
 refine(KY.out _).mono ?_
 rintro e w2 ⟨rfl,q2⟩
 have qb:=qa.trans q2
 obtain⟨-,-,k2,-⟩:=AD (Y.out.on (q1.trans q2))
 go_wp2_with fail
 refine(IG.out _ qb).mono ?_
 rintro e w3 ⟨v3,rfl,o3,q3⟩
 have hv3:=o3.vers OKV.out
 have C3:=AC (CG.out w3 v3 hv3)
 obtain⟨A3,c3,rfl⟩:=Ae o3
 clear hv3 o3
 go_wp2_with fail
 refine(C3.out).mono ?_
 rintro e w4 ⟨rfl,q4⟩
 have qz:=(qb.trans q3).trans q4
 have xz:=X.out.on (((q1.trans q2).trans q3).trans q4)
 obtain⟨⟨r0,r1,r2,r3⟩,f0,f1,f2,f3⟩:=Jw xz
 go_wp2
 (try simp only [Exit.inBlock,Exit.then])
 obtain⟨wC,hwC⟩:∃ x,x=((((w4.setCell ⟨w.heap.size+1,0,none⟩ (.int .u64 (fi:Nat))).setCell ⟨w.heap.size+1,1,none⟩ (.string fd)).setCell ⟨w.heap.size+1,2,none⟩ (.bool fm)).setCell ⟨w.heap.size+1,3,none⟩ (.int .i64 ft)):=⟨_,rfl⟩
 have bD:Bx wC (w.heap.size+1) 49 #[.int .u64 (fi:Nat),.string fd,.bool fm,.int .i64 ft]:=by rw [hwC];exact Q4 xz
 have qC:Q w wC:=by rw [hwC];exact Q.set (Q.set (Q.set (Q.set qz (by omega) _) (by omega) _) (by omega) _) (by omega) _
 rw [← hwC]
 obtain⟨⟨v0,v1,v2,v3⟩,-⟩:=Jw bD
 refine bodyPost_ret (v:=.tuple #[.agg #[.int .u64 (fi:Nat),.string fd,.bool fm,.int .i64 ft],.int .i64 fe]) ?_ rfl ⟨rfl,qC⟩
 rw [results_cell_tmp rfl]
 go_simp
end
end Go.Proofs.YtjjlbbfhmpbneaaGreat
