/-
  Contracts of the document's Octets of a bucket, and of its Same, where they are the same. Contracts of the statements' Few and Cut.
-/
import Derived.Test.YtjjlbbfhmpbneaaGreatLs
import Derived.Test.YtjjlbbfhmpbneaaGreatLp
import Derived.Test.YtjjlbbfhmpbneaaGreatLj
import Derived.Deep.RegionHeld3
import Derived.Test.YtjjlbbfhmpbneaaGreatLu
import Derived.Test.YtjjlbbfhmpbneaaGreatLn
namespace Go.Proofs.YtjjlbbfhmpbneaaGreat
open AllReadyH renaming cons → aC, nil → aN
open Lib renaming hid → AC
set_option maxHeartbeats 16000000
set_option maxRecDepth 100000
set_option linter.unusedVariables false
set_option linter.unusedSimpArgs false
section
open Go.ChangeShapes Go.WideShapes Go.ChangeAt Go.RowKit Go.Shelf
theorem Ef(b:Bkt)(lv uv:Value)(w:World)(hs:smE b.L)(hu:smL b.U)(hv:BktV w b lv uv):
  Calls Tryz.prog 29 #[bkt b lv uv] w fun e w'=>e=.returned (.int .i64 (Bz b:Nat))∧Q w w':=by
 have z1:=EK hs.1
 have z2:=EF hu
 obtain⟨A1,c1,rfl⟩:=hv.1.form
 obtain⟨A2,c2,rfl⟩:=hv.2.form
 have q0:Q w (w.alloc (.cells (bcl b (.slice A1 b.L.length c1) (.slice A2 b.U.length c2)) 26)):=(Q.refl w).alloc _
 have Z:Hid (∀ d,Q (w.alloc (.cells (bcl b (.slice A1 b.L.length c1) (.slice A2 b.U.length c2)) 26)) d→(fun w'=>w'.cell? ⟨w.heap.size,2,none⟩=some (.slice A1 b.L.length c1)∧w'.cell? ⟨w.heap.size,3,none⟩=some (.slice A2 b.U.length c2)∧Q (w.alloc (.cells (bcl b (.slice A1 b.L.length c1) (.slice A2 b.U.length c2)) 26)) w') d):=AC fun d q=>by
  obtain⟨-,-,e2,e3,-⟩:=AD ((Bx.new w 26 (bcl b (.slice A1 b.L.length c1) (.slice A2 b.U.length c2))).on q)
  exact⟨e2,e3,q⟩
 have CO:Hid (∀ d,(fun w'=>w'.cell? ⟨w.heap.size,2,none⟩=some (.slice A1 b.L.length c1)∧w'.cell? ⟨w.heap.size,3,none⟩=some (.slice A2 b.U.length c2)∧Q (w.alloc (.cells (bcl b (.slice A1 b.L.length c1) (.slice A2 b.U.length c2)) 26)) w') d→Calls Tryz.prog 70 #[.slice A1 b.L.length c1] d fun e w'=>e=.returned (.int .i64 (FQ b.L:Nat))∧(fun w'=>w'.cell? ⟨w.heap.size,2,none⟩=some (.slice A1 b.L.length c1)∧w'.cell? ⟨w.heap.size,3,none⟩=some (.slice A2 b.U.length c2)∧Q (w.alloc (.cells (bcl b (.slice A1 b.L.length c1) (.slice A2 b.U.length c2)) 26)) w') w'):=AC fun d hd=>(Ou b.L _ d hs.1 (hv.1.on (q0.trans hd.2.2))).mono fun e w' h=>⟨h.1,Z.out _ (hd.2.2.trans h.2)⟩
 have OC:Hid (∀ d,(fun w'=>w'.cell? ⟨w.heap.size,2,none⟩=some (.slice A1 b.L.length c1)∧w'.cell? ⟨w.heap.size,3,none⟩=some (.slice A2 b.U.length c2)∧Q (w.alloc (.cells (bcl b (.slice A1 b.L.length c1) (.slice A2 b.U.length c2)) 26)) w') d→Calls Tryz.prog 71 #[.slice A2 b.U.length c2] d fun e w'=>e=.returned (.int .i64 (DD b.U:Nat))∧(fun w'=>w'.cell? ⟨w.heap.size,2,none⟩=some (.slice A1 b.L.length c1)∧w'.cell? ⟨w.heap.size,3,none⟩=some (.slice A2 b.U.length c2)∧Q (w.alloc (.cells (bcl b (.slice A1 b.L.length c1) (.slice A2 b.U.length c2)) 26)) w') w'):=AC fun d hd=>(IX b.U _ d hu (hv.2.on (q0.trans hd.2.2))).mono fun e w' h=>⟨h.1,Z.out _ (hd.2.2.trans (by first | exact h.2 | exact h.2.q))⟩
 have HV:Hid (((FQ b.L:Nat):Int)+((DD b.U:Nat):Int)=((Bz b:Nat):Int)):=AC (by rw [Bz];omega)
 have z3:(((FQ b.L:Nat):Int)+((DD b.U:Nat):Int))≤200000000000:=by omega
 generalize FQ b.L=x at *
 generalize DD b.U=y at *
 generalize Bz b=o at *
 clear hs hu hv
 rw [bkt]
 go_enter Tryz.func29,Tryz.ntmps29
 go_wp2_with fail
 refine wp_region_held_drew (S:=(fun w'=>w'.cell? ⟨w.heap.size,2,none⟩=some (.slice A1 b.L.length c1)∧w'.cell? ⟨w.heap.size,3,none⟩=some (.slice A2 b.U.length c2)∧Q (w.alloc (.cells (bcl b (.slice A1 b.L.length c1) (.slice A2 b.U.length c2)) 26)) w')) (by kernel_rfl) (Z.out _ (Q.refl _).drew) (fun hHeld=>?_)
 refine tkV 0 ?_
 refine tkV 1 ?_
 refine tkV 3 ?_
 refine tkV 4 ?_
 refine aR [2] ?_
 refine aC rfl (fun K hK=>?_) aN
 go_simp
 go_at_call 70
 refine(CO.out _ (by assumption)).mono ?_
 rintro e w' ⟨rfl,hS⟩
 refine hK.out _ _ hS (fun hHeld=>?_)
 clear hK K
 refine pg ?_
 refine aR [5] ?_
 refine aC rfl (fun K hK=>?_) aN
 go_simp
 go_at_call 71
 refine(OC.out _ (by assumption)).mono ?_
 rintro e w' ⟨rfl,hS⟩
 refine hK.out _ _ hS (fun hHeld=>?_)
 clear hK K
 refine pg ?_
 refine tkV 6 ?_
 refine tkV 7 ?_
 refine wpAnyH_done (by kernel_rfl) ?_ _
 have qe:=(show(fun w'=>w'.cell? ⟨w.heap.size,2,none⟩=some (.slice A1 b.L.length c1)∧w'.cell? ⟨w.heap.size,3,none⟩=some (.slice A2 b.U.length c2)∧Q (w.alloc (.cells (bcl b (.slice A1 b.L.length c1) (.slice A2 b.U.length c2)) 26)) w') _ by assumption).2.2
 go_wp2
 go_ret
 exact⟨by rw [← HV.out];show Ending.returned (Value.int .i64 (IntKind.i64.wrap ((x:Int)+(y:Int))))=_;rw [show IntKind.i64.wrap ((x:Int)+(y:Int))=(x:Int)+(y:Int) by rw [IntKind.wrap_i64];omega],q0.trans qe⟩
theorem Fh(b:Bkt)(lv uv lx ux:Value)(w:World)(hs:smE b.L)(hu:smL b.U)(hv:BktV w b lv uv)(hx:BktV w b lx ux):
  Calls Tryz.prog 14 #[bkt b lv uv,bkt b lx ux] w fun e w'=>e=.returned (.bool true)∧Q w w':=by
 obtain⟨A1,c1,rfl⟩:=hv.1.form
 obtain⟨A2,c2,rfl⟩:=hv.2.form
 obtain⟨A3,c3,rfl⟩:=hx.1.form
 obtain⟨A4,c4,rfl⟩:=hx.2.form
 have q0:Q w ((w.alloc (.cells (bcl b (.slice A1 b.L.length c1) (.slice A2 b.U.length c2)) 26)).alloc (.cells (bcl b (.slice A3 b.L.length c3) (.slice A4 b.U.length c4)) 26)):=((Q.refl w).alloc _).alloc _
 have Z:=AC ((Bx.new w 26 (bcl b (.slice A1 b.L.length c1) (.slice A2 b.U.length c2))).alloc (.cells (bcl b (.slice A3 b.L.length c3) (.slice A4 b.U.length c4)) 26))
 have Y0:=Bx.new (w.alloc (.cells (bcl b (.slice A1 b.L.length c1) (.slice A2 b.U.length c2)) 26)) 26 (bcl b (.slice A3 b.L.length c3) (.slice A4 b.U.length c4))
 simp only [World.size_alloc] at Y0
 have Y:=AC Y0
 have SE:=AC fun d (q:Q w d)=>KJ b.L b.L (.slice A1 b.L.length c1) (.slice A3 b.L.length c3) d true (.inl ⟨rfl,rfl⟩) hs.1 hs.1 (hv.1.on q) (hx.1.on q)
 have SU:=AC fun d (q:Q w d)=>KH b.U b.U (.slice A2 b.U.length c2) (.slice A4 b.U.length c4) d true (.inl ⟨rfl,rfl⟩) hu hu (hv.2.on q) (hx.2.on q)
 clear hs hu hv hx Y0
 rw [bkt,bkt]
 go_enter Tryz.func14,Tryz.ntmps14
 go_wp2_with fail
 refine(SE.out _ q0).mono ?_
 rintro e w1 ⟨rfl,q1d⟩
 have q1:=q1d.q
 clear q1d
 obtain⟨-,-,-,e3,-⟩:=AD (Z.out.on q1)
 obtain⟨-,-,-,f3,-⟩:=AD (Y.out.on q1)
 go_wp2_with fail
 refine(SU.out _ (q0.trans q1)).mono ?_
 rintro e w2 ⟨rfl,q2⟩
 have q:=(q0.trans q1).trans (by first | exact q2 | exact q2.q)
 go_wp2
 go_ret
 exact⟨rfl,q⟩
end
section
open Go.ChangeShapes Go.WideShapes Go.ChangeAt Go.RowKit Go.Shelf
def EW(b:Bkt):Bkt:=⟨Cc b.name,b.st,Gv b.L,Le b.U,b.last⟩
theorem Dq(b:Bkt):(EW b).name.size≤1000∧smE (EW b).L∧smL (EW b).U:=by
 refine⟨by have:=Bl b.name;show(Cc b.name).size≤1000;omega,⟨J7 (by have:=Jj b.L;show(Gv b.L).length≤1000;omega) (Hw b.L),fun e he=>?_⟩,Rt b.U⟩
 have:=(Hw b.L e he).2.1
 omega
theorem Jk(b:Bkt)(lv uv:Value)(w:World)(hn:b.name.size≤maxLen)(hl:b.L.length≤maxLen)(hu:b.U.length≤maxLen)(hv:BktV w b lv uv):
  Calls Tryz.prog 10 #[bkt b lv uv] w fun e w'=>∃ A c A' c',e=.returned (bkt (EW b) (.slice A (EW b).L.length c) (.slice A' (EW b).U.length c'))∧BktV w' (EW b) (.slice A (EW b).L.length c) (.slice A' (EW b).U.length c')∧Q w w':=by
 obtain⟨A1,c1,rfl⟩:=hv.1.form
 obtain⟨A2,c2,rfl⟩:=hv.2.form
 have q0:Q w ((w.alloc (.cells (bcl b (.slice A1 b.L.length c1) (.slice A2 b.U.length c2)) 26)).alloc (.cells (bcl noB (.slice none 0 0) (.slice none 0 0)) 26)):=((Q.refl w).alloc _).alloc _
 have Z:=AC ((Bx.new w 26 (bcl b (.slice A1 b.L.length c1) (.slice A2 b.U.length c2))).alloc (.cells (bcl noB (.slice none 0 0) (.slice none 0 0)) 26))
 have Y0:=Bx.new (w.alloc (.cells (bcl b (.slice A1 b.L.length c1) (.slice A2 b.U.length c2)) 26)) 26 (bcl noB (.slice none 0 0) (.slice none 0 0))
 simp only [World.size_alloc] at Y0
 have Y:=AC Y0
 have KF:Hid (∀ d,Q ((w.alloc (.cells (bcl b (.slice A1 b.L.length c1) (.slice A2 b.U.length c2)) 26)).alloc (.cells (bcl noB (.slice none 0 0) (.slice none 0 0)) 26)) d→(fun W=>Bx W w.heap.size 26 (bcl b (.slice A1 b.L.length c1) (.slice A2 b.U.length c2))∧Q ((w.alloc (.cells (bcl b (.slice A1 b.L.length c1) (.slice A2 b.U.length c2)) 26)).alloc (.cells (bcl noB (.slice none 0 0) (.slice none 0 0)) 26)) W) d):=AC fun d q=>⟨Z.out.on q,q⟩
 have FS:=AC fun d=>EV b.name d hn
 have FE:=AC fun d (q:Q w d)=>P0 b.L (.slice A1 b.L.length c1) d hl (hv.1.on q)
 have FU:=AC fun d (q:Q w d)=>NG b.U (.slice A2 b.U.length c2) d hu (hv.2.on q)
 have q9:=(Q.refl ((w.alloc (.cells (bcl b (.slice A1 b.L.length c1) (.slice A2 b.U.length c2)) 26)).alloc (.cells (bcl noB (.slice none 0 0) (.slice none 0 0)) 26))).drew
 clear hn hl hu hv Y0
 rw [bkt]
 go_enter Tryz.func10,Tryz.ntmps10
 go_wp2_with fail
 refine Aw (F:=(fun W=>Bx W w.heap.size 26 (bcl b (.slice A1 b.L.length c1) (.slice A2 b.U.length c2))∧Q ((w.alloc (.cells (bcl b (.slice A1 b.L.length c1) (.slice A2 b.U.length c2)) 26)).alloc (.cells (bcl noB (.slice none 0 0) (.slice none 0 0)) 26)) W)) (st:=14) (by kernel_rfl) (KF.out _ q9) (fun hTill=>?_)
 refine AK (i:=0) (o:=_) (v:=?_) rfl (by kernel_rfl) (by kernel_rfl) (by kernel_rfl) (by decide) (fun _ _ _ h=>h) (Or.inl ⟨by rfl,?_⟩) (by first | (intro _;assumption) | (intro e;exact absurd e (by decide))) ?_
 rotate_left
 ·(intro wx hSw;go_simp;(try with_reducible rfl))
 refine pg ?_
 refine AL (i:=1) (o:=_) (v:=?_) rfl (by kernel_rfl) (by kernel_rfl) (by kernel_rfl) (by kernel_rfl) (by rfl) (fun _ _ _ h=>h) (Or.inl ⟨by rfl,?_⟩) (by assumption) ?_
 rotate_left
 ·(intro wx hSw;obtain⟨hz0,hz1,hz2,hz3,hz4⟩:=AD hSw.1;go_simp;(try with_reducible rfl))
 refine pg ?_
 refine AK (i:=3) (o:=_) (v:=?_) rfl (by kernel_rfl) (by kernel_rfl) (by kernel_rfl) (by decide) (fun _ _ _ h=>h) (Or.inl ⟨by rfl,?_⟩) (by first | (intro _;assumption) | (intro e;exact absurd e (by decide))) ?_
 rotate_left
 ·(intro wx hSw;go_simp;(try with_reducible rfl))
 refine pg ?_
 refine AL (i:=4) (o:=_) (v:=?_) rfl (by kernel_rfl) (by kernel_rfl) (by kernel_rfl) (by kernel_rfl) (by rfl) (fun _ _ _ h=>h) (Or.inl ⟨by rfl,?_⟩) (by assumption) ?_
 rotate_left
 ·(intro wx hSw;obtain⟨hz0,hz1,hz2,hz3,hz4⟩:=AD hSw.1;go_simp;(try with_reducible rfl))
 refine pg ?_
 refine AK (i:=5) (o:=_) (v:=?_) rfl (by kernel_rfl) (by kernel_rfl) (by kernel_rfl) (by decide) (fun _ _ _ h=>h) (Or.inl ⟨by rfl,?_⟩) (by first | (intro _;assumption) | (intro e;exact absurd e (by decide))) ?_
 rotate_left
 ·(intro wx hSw;go_simp;(try with_reducible rfl))
 refine pg ?_
 refine AL (i:=6) (o:=_) (v:=?_) rfl (by kernel_rfl) (by kernel_rfl) (by kernel_rfl) (by kernel_rfl) (by rfl) (fun _ _ _ h=>h) (Or.inl ⟨by rfl,?_⟩) (by assumption) ?_
 rotate_left
 ·(intro wx hSw;obtain⟨hz0,hz1,hz2,hz3,hz4⟩:=AD hSw.1;go_simp;(try with_reducible rfl))
 refine pg ?_
 refine AK (i:=8) (o:=_) (v:=?_) rfl (by kernel_rfl) (by kernel_rfl) (by kernel_rfl) (by decide) (fun _ _ _ h=>h) (Or.inl ⟨by rfl,?_⟩) (by first | (intro _;assumption) | (intro e;exact absurd e (by decide))) ?_
 rotate_left
 ·(intro wx hSw;go_simp;(try with_reducible rfl))
 refine pg ?_
 refine AL (i:=9) (o:=_) (v:=?_) rfl (by kernel_rfl) (by kernel_rfl) (by kernel_rfl) (by kernel_rfl) (by rfl) (fun _ _ _ h=>h) (Or.inl ⟨by rfl,?_⟩) (by assumption) ?_
 rotate_left
 ·(intro wx hSw;obtain⟨hz0,hz1,hz2,hz3,hz4⟩:=AD hSw.1;go_simp;(try with_reducible rfl))
 refine pg ?_
 refine AK (i:=11) (o:=_) (v:=?_) rfl (by kernel_rfl) (by kernel_rfl) (by kernel_rfl) (by decide) (fun _ _ _ h=>h) (Or.inl ⟨by rfl,?_⟩) (by first | (intro _;assumption) | (intro e;exact absurd e (by decide))) ?_
 rotate_left
 ·(intro wx hSw;go_simp;(try with_reducible rfl))
 refine pg ?_
 refine AL (i:=12) (o:=_) (v:=?_) rfl (by kernel_rfl) (by kernel_rfl) (by kernel_rfl) (by kernel_rfl) (by rfl) (fun _ _ _ h=>h) (Or.inl ⟨by rfl,?_⟩) (by assumption) ?_
 rotate_left
 ·(intro wx hSw;obtain⟨hz0,hz1,hz2,hz3,hz4⟩:=AD hSw.1;go_simp;(try with_reducible rfl))
 refine pg ?_
 refine Af (i:=2) (o:=_) (by kernel_rfl) rfl (fun K hK=>?_)
 go_simp
 go_at_call 22
 refine(FS.out _).mono ?_
 rintro e w1 ⟨rfl,rfl⟩
 refine hK.out _ _ (KF.out _ q9) (fun hTill=>?_)
 clear hK K
 refine pg ?_
 refine Af (i:=7) (o:=_) (by kernel_rfl) rfl (fun K hK=>?_)
 go_simp
 go_at_call 30
 refine(FE.out _ (q0.trans q9)).mono ?_
 rintro e w2 ⟨v2,rfl,o2,q2⟩
 have e2:=o2.ents q2.size
 obtain⟨A3,c3,rfl⟩:=e2.form
 have E2:=AC e2
 clear o2 e2
 refine hK.out _ _ (KF.out _ (q9.trans q2)) (fun hTill=>?_)
 clear hK K
 refine pg ?_
 refine Af (i:=10) (o:=_) (by kernel_rfl) rfl (fun K hK=>?_)
 go_simp
 go_at_call 31
 refine(FU.out _ ((q0.trans q9).trans q2)).mono ?_
 rintro e w3 ⟨v3,rfl,u3,q3⟩
 obtain⟨A4,c4,rfl⟩:=u3.form
 have U3:=AC u3
 clear u3
 have q10:=(q9.trans q2).trans q3
 obtain⟨r0,r1,r2,r3,r4⟩:=AD (Y.out.on q10)
 obtain⟨fz0,fz1,fz2,fz3,fz4⟩:=AF (Y.out.on q10)
 refine hK.out _ _ (KF.out _ ((q9.trans q2).trans q3)) (fun hTill=>?_)
 clear hK K
 refine pg ?_
 refine AK (i:=13) (o:=_) (v:=?_) rfl (by kernel_rfl) (by kernel_rfl) (by kernel_rfl) (by decide) (fun _ _ _ h=>h) (Or.inl ⟨by rfl,?_⟩) (by first | (intro _;assumption) | (intro e;exact absurd e (by decide))) ?_
 rotate_left
 ·(intro wx hSw;go_simp;(try with_reducible rfl))
 refine pg ?_
 refine Ah (i:=14) (o:=_) (by kernel_rfl) rfl (by rfl) (fun K hK=>?_)
 go_simp
 refine hK.out _ _ ?_
 clear hK K
 refine pg ?_
 refine BR (by kernel_rfl) ?_ _
 go_wp2
 (try simp only [Exit.inBlock,Exit.then])
 obtain⟨wC,hwC⟩:∃ wC,wC=((((w3.setCell ⟨w.heap.size+1,0,none⟩ (.string (Cc b.name))).setCell ⟨w.heap.size+1,1,none⟩ (.int .i64 b.st)).setCell ⟨w.heap.size+1,2,none⟩ (.slice A3 (Gv b.L).length c3)).setCell ⟨w.heap.size+1,3,none⟩ (.slice A4 (Le b.U).length c4)).setCell ⟨w.heap.size+1,4,none⟩ (.int .u64 (b.last:Nat)):=⟨_,rfl⟩
 have gk:Kp (w.heap.size+1) w3 wC:=by rw [hwC];exact(((((Kp.of (Q.refl w3)).set 0 _).set 1 _).set 2 _).set 3 _).set 4 _
 have bD:Bx wC (w.heap.size+1) 26 (bcl (EW b) (.slice A3 (EW b).L.length c3) (.slice A4 (EW b).U.length c4)):=by rw [hwC];exact AM (b:=EW b) (Y.out.on q10)
 have cm:=AI (Y.out.on q10)
 have qC:Q w wC:=gk.q (q0.trans q10) (by omega)
 have eC:=(E2.out.on q3).kp cm gk
 have uC:=U3.out.kp cm gk
 rw [← hwC]
 obtain⟨v0,v1,v2,v3,v4⟩:=AD bD
 refine bodyPost_ret (v:=bkt (EW b) (.slice A3 (EW b).L.length c3) (.slice A4 (EW b).U.length c4)) ?_ rfl ⟨A3,c3,A4,c4,rfl,⟨eC,uC⟩,qC⟩
 simp [results,Tryz.results10,go_sem,v0,v1,v2,v3,v4,bkt]
structure Actn where
 kind:Nat
 key:ByteArray
 data:ByteArray
 id:Nat
 n:Int
 tm:Int
 P:List Pce
def acl(a:Actn)(pv:Value):Array Value:=#[.int .u8 (a.kind:Nat),.string a.key,.string a.data,.int .u64 (a.id:Nat),.int .i64 a.n,.int .i64 a.tm,pv]
def Bc(a:Actn)(pv:Value):Value:=.agg (acl a pv)
def EA(a:Actn):Prop:=a.kind<256∧a.key.size≤maxLen∧a.data.size≤maxLen∧a.id<18446744073709551616∧(-9223372036854775808≤a.n∧a.n≤9223372036854775807)∧(-9223372036854775808≤a.tm∧a.tm≤9223372036854775807)∧a.P.length≤maxLen
def Hy(a:Actn):Actn:={a with key:=Cc a.key,data:=GP a.data,P:=a.P.take 40}
theorem ST{a:Actn}(h:EA a):EA (Hy a)∧(Hy a).key.size≤80∧(Hy a).data.size≤2001∧(Hy a).P.length≤40:=by
 obtain⟨h1,h2,h3,h4,h5,h6,h7⟩:=h
 have k1:=Bl a.key
 have k2:=DQ a.data
 have k3:(a.P.take 40).length≤40:=List.length_take_le ..
 exact⟨⟨h1,by show(Cc a.key).size≤maxLen;unfold maxLen;omega,by show(GP a.data).size≤maxLen;unfold maxLen;omega,h4,h5,h6,by show(a.P.take 40).length≤maxLen;unfold maxLen;omega⟩,k1,k2,k3⟩
theorem Dz{w:World}{p:Nat}{a:Actn}{pv:Value}(h:Bx w p 29 (acl a pv)):
  (w.cell? ⟨p,0,none⟩=some (.int .u8 (a.kind:Nat))∧w.cell? ⟨p,1,none⟩=some (.string a.key)∧w.cell? ⟨p,2,none⟩=some (.string a.data)∧w.cell? ⟨p,3,none⟩=some (.int .u64 (a.id:Nat))∧w.cell? ⟨p,4,none⟩=some (.int .i64 a.n)∧w.cell? ⟨p,5,none⟩=some (.int .i64 a.tm)∧w.cell? ⟨p,6,none⟩=some pv)∧
  (w.frozen? ⟨p,0,none⟩=false∧w.frozen? ⟨p,1,none⟩=false∧w.frozen? ⟨p,2,none⟩=false∧w.frozen? ⟨p,3,none⟩=false∧w.frozen? ⟨p,4,none⟩=false∧w.frozen? ⟨p,5,none⟩=false∧w.frozen? ⟨p,6,none⟩=false):=by
 refine⟨⟨?_,?_,?_,?_,?_,?_,?_⟩,h.frozen 0,h.frozen 1,h.frozen 2,h.frozen 3,h.frozen 4,h.frozen 5,h.frozen 6⟩ <;> (rw [h.cell];rfl)
theorem Sh{w:World}{p:Nat}{x0 x1 x2 x3 x4 x5 x6 y0 y1 y2 y3 y4 y5 y6:Value}(h:Bx w p 29 #[x0,x1,x2,x3,x4,x5,x6]):
  Bx (((((((w.setCell ⟨p,0,none⟩ y0).setCell ⟨p,1,none⟩ y1).setCell ⟨p,2,none⟩ y2).setCell ⟨p,3,none⟩ y3).setCell ⟨p,4,none⟩ y4).setCell ⟨p,5,none⟩ y5).setCell ⟨p,6,none⟩ y6) p 29 #[y0,y1,y2,y3,y4,y5,y6]∧
  Kp p w (((((((w.setCell ⟨p,0,none⟩ y0).setCell ⟨p,1,none⟩ y1).setCell ⟨p,2,none⟩ y2).setCell ⟨p,3,none⟩ y3).setCell ⟨p,4,none⟩ y4).setCell ⟨p,5,none⟩ y5).setCell ⟨p,6,none⟩ y6):=by
 have h0:Bx _ p 29 #[y0,x1,x2,x3,x4,x5,x6]:=h.set 0 y0
 have h1:Bx _ p 29 #[y0,y1,x2,x3,x4,x5,x6]:=h0.set 1 y1
 have h2:Bx _ p 29 #[y0,y1,y2,x3,x4,x5,x6]:=h1.set 2 y2
 have h3:Bx _ p 29 #[y0,y1,y2,y3,x4,x5,x6]:=h2.set 3 y3
 have h4:Bx _ p 29 #[y0,y1,y2,y3,y4,x5,x6]:=h3.set 4 y4
 have h5:Bx _ p 29 #[y0,y1,y2,y3,y4,y5,x6]:=h4.set 5 y5
 exact⟨h5.set 6 y6,(((((((Kp.of (Q.refl w)).set 0 _).set 1 _).set 2 _).set 3 _).set 4 _).set 5 _).set 6 _⟩
theorem QY{w:World}{p:Nat}{a:Actn}{A:Option Addr}{n c:Nat}(h:Bx w p 29 (acl a (.slice A n c))):Calm w p:=⟨_,_,h,rfl⟩
theorem QR(a:Actn)(pv:Value)(w:World)(ha:EA a)(hp:Pces w w.heap.size pv a.P):
  Calls Tryz.prog 11 #[Bc a pv] w fun e w'=>∃ A c,e=.returned (Bc (Hy a) (.slice A (Hy a).P.length c))∧Pces w' w'.heap.size (.slice A (Hy a).P.length c) (Hy a).P∧Q w w':=by
 obtain⟨kind,key,data,id,n,tm,P⟩:=a
 obtain⟨A1,c1,rfl⟩:=hp.form
 simp only at hp
 have HP:=AC hp
 obtain⟨-,hk,hd,-,-,-,-⟩:=ha
 simp only at hk hd
 have q0:Q w ((w.alloc (.cells (acl ⟨kind,key,data,id,n,tm,P⟩ (.slice A1 P.length c1)) 29)).alloc (.cells #[.int .u8 0,.string ⟨#[]⟩,.string ⟨#[]⟩,.int .u64 0,.int .i64 0,.int .i64 0,.slice none 0 0] 29)):=((Q.refl w).alloc _).alloc _
 have Z:=AC ((Bx.new w 29 (acl ⟨kind,key,data,id,n,tm,P⟩ (.slice A1 P.length c1))).alloc (.cells #[.int .u8 0,.string ⟨#[]⟩,.string ⟨#[]⟩,.int .u64 0,.int .i64 0,.int .i64 0,.slice none 0 0] 29))
 have Y0:=Bx.new (w.alloc (.cells (acl ⟨kind,key,data,id,n,tm,P⟩ (.slice A1 P.length c1)) 29)) 29 #[.int .u8 0,.string ⟨#[]⟩,.string ⟨#[]⟩,.int .u64 0,.int .i64 0,.int .i64 0,.slice none 0 0]
 simp only [World.size_alloc] at Y0
 have Y:=AC Y0
 have FS:=AC fun d=>EV key d hk
 have hcap:P.length≤c1:=by
  obtain⟨A',c',e,e0,-⟩:=hp
  injection e with e1 e2 e3
  subst e3
  exact e0
 clear hk hp Y0
 rw [Bc,acl]
 simp only
 by_cases hd1:2001<data.size
 ·have hdd:GP data=data.extract 0 2001:=by unfold GP;rw [if_pos hd1]
  have hd2:(2001:Int)<(data.size:Int):=by omega
  have hd3:¬ (data.size:Int)<2001:=by omega
  by_cases hp1:40<P.length
  ·have hpp:Hy ⟨kind,key,data,id,n,tm,P⟩=⟨kind,Cc key,data.extract 0 2001,id,n,tm,P.take 40⟩:=by rw [Hy,hdd]
   have hp2:(40:Int)<(P.length:Int):=by omega
   have hp3:¬ (c1:Int)<40:=by omega
   have hlen:(P.take 40).length=40:=by rw [List.length_take];omega
   rw [hpp]
   clear hpp hdd hd1 hp1 hd
   go_enter Tryz.func11,Tryz.ntmps11
   go_wp2_with fail
   refine(FS.out _).mono ?_
   rintro e w1 ⟨rfl,rfl⟩
   obtain⟨⟨k0,k1,k2,k3,k4,k5,k6⟩,f0,f1,f2,f3,f4,f5,f6⟩:=Dz Z.out
   go_wp2
   (try simp only [Exit.inBlock,Exit.then])
   refine bodyPost_ret (v:=Bc ⟨kind,Cc key,(data.extract 0 2001),id,n,tm,P.take 40⟩ (.slice A1 40 c1)) ?_ rfl ⟨A1,c1,by first | rfl | rw [hlen],?_,((Q.refl w).alloc _).alloc _⟩
   ·simp [results,Tryz.results11,go_sem,Bc,acl]
   ·have q:=((Q.refl w).alloc (.cells (acl ⟨kind,Cc key,(data.extract 0 2001),id,n,tm,P.take 40⟩ (.slice A1 40 c1)) 29)).alloc (.cells (acl ⟨kind,Cc key,(data.extract 0 2001),id,n,tm,P.take 40⟩ (.slice A1 40 c1)) 29)
    first | exact HP.out.on q | (rw [hlen];exact(HP.out.cutTake (by omega)).on q)
  ·have hpp:Hy ⟨kind,key,data,id,n,tm,P⟩=⟨kind,Cc key,data.extract 0 2001,id,n,tm,P⟩:=by rw [Hy,hdd];simp only;rw [List.take_of_length_le (by omega)]
   have hp2:¬ (40:Int)<(P.length:Int):=by omega
   rw [hpp]
   clear hpp hdd hd1 hp1 hd
   go_enter Tryz.func11,Tryz.ntmps11
   go_wp2_with fail
   refine(FS.out _).mono ?_
   rintro e w1 ⟨rfl,rfl⟩
   obtain⟨⟨k0,k1,k2,k3,k4,k5,k6⟩,f0,f1,f2,f3,f4,f5,f6⟩:=Dz Z.out
   go_wp2
   (try simp only [Exit.inBlock,Exit.then])
   refine bodyPost_ret (v:=Bc ⟨kind,Cc key,(data.extract 0 2001),id,n,tm,P⟩ (.slice A1 P.length c1)) ?_ rfl ⟨A1,c1,by first | rfl | rw [hlen],?_,((Q.refl w).alloc _).alloc _⟩
   ·simp [results,Tryz.results11,go_sem,Bc,acl]
   ·have q:=((Q.refl w).alloc (.cells (acl ⟨kind,Cc key,(data.extract 0 2001),id,n,tm,P⟩ (.slice A1 P.length c1)) 29)).alloc (.cells (acl ⟨kind,Cc key,(data.extract 0 2001),id,n,tm,P⟩ (.slice A1 P.length c1)) 29)
    first | exact HP.out.on q | (rw [hlen];exact(HP.out.cutTake (by omega)).on q)
 ·have hdd:GP data=data:=by unfold GP;rw [if_neg hd1]
  have hd2:¬ (2001:Int)<(data.size:Int):=by omega
  by_cases hp1:40<P.length
  ·have hpp:Hy ⟨kind,key,data,id,n,tm,P⟩=⟨kind,Cc key,data,id,n,tm,P.take 40⟩:=by rw [Hy,hdd]
   have hp2:(40:Int)<(P.length:Int):=by omega
   have hp3:¬ (c1:Int)<40:=by omega
   have hlen:(P.take 40).length=40:=by rw [List.length_take];omega
   rw [hpp]
   clear hpp hdd hd1 hp1 hd
   go_enter Tryz.func11,Tryz.ntmps11
   go_wp2_with fail
   refine(FS.out _).mono ?_
   rintro e w1 ⟨rfl,rfl⟩
   obtain⟨⟨k0,k1,k2,k3,k4,k5,k6⟩,f0,f1,f2,f3,f4,f5,f6⟩:=Dz Z.out
   go_wp2
   (try simp only [Exit.inBlock,Exit.then])
   refine bodyPost_ret (v:=Bc ⟨kind,Cc key,data,id,n,tm,P.take 40⟩ (.slice A1 40 c1)) ?_ rfl ⟨A1,c1,by first | rfl | rw [hlen],?_,((Q.refl w).alloc _).alloc _⟩
   ·simp [results,Tryz.results11,go_sem,Bc,acl]
   ·have q:=((Q.refl w).alloc (.cells (acl ⟨kind,Cc key,data,id,n,tm,P.take 40⟩ (.slice A1 40 c1)) 29)).alloc (.cells (acl ⟨kind,Cc key,data,id,n,tm,P.take 40⟩ (.slice A1 40 c1)) 29)
    first | exact HP.out.on q | (rw [hlen];exact(HP.out.cutTake (by omega)).on q)
  ·have hpp:Hy ⟨kind,key,data,id,n,tm,P⟩=⟨kind,Cc key,data,id,n,tm,P⟩:=by rw [Hy,hdd];simp only;rw [List.take_of_length_le (by omega)]
   have hp2:¬ (40:Int)<(P.length:Int):=by omega
   rw [hpp]
   clear hpp hdd hd1 hp1 hd
   go_enter Tryz.func11,Tryz.ntmps11
   go_wp2_with fail
   refine(FS.out _).mono ?_
   rintro e w1 ⟨rfl,rfl⟩
   obtain⟨⟨k0,k1,k2,k3,k4,k5,k6⟩,f0,f1,f2,f3,f4,f5,f6⟩:=Dz Z.out
   go_wp2
   (try simp only [Exit.inBlock,Exit.then])
   refine bodyPost_ret (v:=Bc ⟨kind,Cc key,data,id,n,tm,P⟩ (.slice A1 P.length c1)) ?_ rfl ⟨A1,c1,by first | rfl | rw [hlen],?_,((Q.refl w).alloc _).alloc _⟩
   ·simp [results,Tryz.results11,go_sem,Bc,acl]
   ·have q:=((Q.refl w).alloc (.cells (acl ⟨kind,Cc key,data,id,n,tm,P⟩ (.slice A1 P.length c1)) 29)).alloc (.cells (acl ⟨kind,Cc key,data,id,n,tm,P⟩ (.slice A1 P.length c1)) 29)
    first | exact HP.out.on q | (rw [hlen];exact(HP.out.cutTake (by omega)).on q)
end
end Go.Proofs.YtjjlbbfhmpbneaaGreat
