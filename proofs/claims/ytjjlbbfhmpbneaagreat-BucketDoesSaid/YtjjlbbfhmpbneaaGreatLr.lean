/-
  Contracts of the methods of a bucket at work: put, delete, drop, and the functions that they hand on. Contracts of put, delete and drop of a bucket at work. Contracts of begin, lay, abort and whole of a bucket at work. Contract of whole of a bucket at work.
-/
import Derived.Test.YtjjlbbfhmpbneaaGreatLq
import Derived.Test.YtjjlbbfhmpbneaaGreatLg
import Derived.Test.YtjjlbbfhmpbneaaGreatLm
import Derived.Test.YtjjlbbfhmpbneaaGreatLo
import Derived.Test.YtjjlbbfhmpbneaaGreatLn
namespace Go.Proofs.YtjjlbbfhmpbneaaGreat
open AllReadyH renaming cons → aC, nil → aN
open Lib renaming hid → AC
set_option maxHeartbeats 16000000
set_option maxRecDepth 100000
set_option linter.unusedVariables false
set_option linter.unusedSimpArgs false
section
open Go.ChangeShapes Go.WideShapes Go.ChangeAt Go.RowKit Go.Shelf
theorem CB(l:List Ent)(key:ByteArray)(h:∀ e∈l,e.L.length≤900):(BY l key).length≤900:=by
 rcases Da l key with e | ⟨y,hy,e⟩
 ·rw [e];simp
 ·rw [e];exact h y hy
theorem CX{l:List Ent}(key:ByteArray)(h:∀ e∈l,∀ x∈e.L,okV x):∀ x∈BY l key,okV x:=by
 rcases Da l key with e | ⟨y,hy,e⟩
 ·rw [e];simp
 ·rw [e];exact h y hy
theorem Fu{b:Bkt}{n:Nat}{d:Bkt}{m k:Nat}(h:Lb b n d m k):d.L=b.L∧d.U=b.U∧d.st=b.st∧d.name=b.name∧(m=n∨m≤281474976710655):=by
 rcases h with⟨-,rfl,rfl,-⟩ | ⟨h,rfl,rfl,-⟩
 ·exact⟨rfl,rfl,rfl,rfl,.inl rfl⟩
 ·exact⟨rfl,rfl,rfl,rfl,.inr (by omega)⟩
theorem DZ{b:Bkt}{n:Nat}{key:ByteArray}{d:Bkt}{m k:Nat}(h:Si b n key d m k):d.L=b.L∧d.U=b.U∧d.st=b.st∧d.name=b.name∧(m=n∨m≤281474976710655):=by
 rcases h with⟨-,rfl,rfl,-⟩ | ⟨-,-,rfl,rfl,-⟩ | ⟨-,-,h⟩
 ·exact⟨rfl,rfl,rfl,rfl,.inl rfl⟩
 ·exact⟨rfl,rfl,rfl,rfl,.inl rfl⟩
 ·exact Fu h
theorem Rw:∀ args w,(callFunc 119 args).run Tryz.prog w=.ok (.enter 119 args) w:=enters_of Tryz.func119 (by kernel_rfl) rfl
theorem Rx:∀ args w,(callFunc 121 args).run Tryz.prog w=.ok (.enter 121 args) w:=enters_of Tryz.func121 (by kernel_rfl) rfl
theorem P6:∀ args w,(callFunc 123 args).run Tryz.prog w=.ok (.enter 123 args) w:=enters_of Tryz.func123 (by kernel_rfl) rfl
theorem O8(w:World)(u:Value)(l:List Ver)(B1 B2 B3 p n:Nat)(st:Int)(data:ByteArray)(tm:Int)(L:List Ver)(c:Nat)(h:PutC l st ⟨n,data,false,tm⟩ L c)(hl:l.length≤900)(hx:okV ⟨n,data,false,tm⟩)(ht:Vers w w.heap.size u l)
  (h1:w.cell? ⟨B1,0,none⟩=some (.pointer (some ⟨p,0,none⟩))) (h2:w.cell? ⟨p,1,none⟩=some (.int .i64 st)) (h3:w.cell? ⟨p,5,none⟩=some (.int .u64 (n:Nat))) (h4:w.cell? ⟨B2,0,none⟩=some (.string data)) (h5:w.cell? ⟨B3,0,none⟩=some (.int .i64 tm))
  (g1:B1<w.heap.size) (g2:B2<w.heap.size) (g3:B3<w.heap.size) (g4:p<w.heap.size) :
  Calls Tryz.prog 119 #[u,.pointer (some ⟨B1,0,none⟩),.pointer (some ⟨B2,0,none⟩),.pointer (some ⟨B3,0,none⟩)] w fun e w'=>∃ v',e=.returned (.tuple #[v',.int .i64 (c:Nat)])∧OwnV w.heap.size w' v' L∧Q w w':=by
 have KS:Hid (∀ d,Q w d→(fun w'=>w'.cell? ⟨B1,0,none⟩=some (.pointer (some ⟨p,0,none⟩))∧w'.cell? ⟨p,1,none⟩=some (.int .i64 st)∧w'.cell? ⟨p,5,none⟩=some (.int .u64 (n:Nat))∧w'.cell? ⟨B2,0,none⟩=some (.string data)∧w'.cell? ⟨B3,0,none⟩=some (.int .i64 tm)∧Q w w') d):=AC fun d q=>⟨(q.cell g1).trans h1,(q.cell g4).trans h2,(q.cell g4).trans h3,(q.cell g2).trans h4,(q.cell g3).trans h5,q⟩
 have PC:Hid (∀ d,(fun w'=>w'.cell? ⟨B1,0,none⟩=some (.pointer (some ⟨p,0,none⟩))∧w'.cell? ⟨p,1,none⟩=some (.int .i64 st)∧w'.cell? ⟨p,5,none⟩=some (.int .u64 (n:Nat))∧w'.cell? ⟨B2,0,none⟩=some (.string data)∧w'.cell? ⟨B3,0,none⟩=some (.int .i64 tm)∧Q w w') d→Calls Tryz.prog 120 #[u,.int .i64 st,.agg #[.int .u64 (n:Nat),.string data,.bool false,.int .i64 tm]] d fun e w'=>∃ A n2 c2,e=.returned (.tuple #[.slice A n2 c2,.int .i64 (c:Nat)])∧OwnV w.heap.size w' (.slice A n2 c2) L∧(fun w'=>w'.cell? ⟨B1,0,none⟩=some (.pointer (some ⟨p,0,none⟩))∧w'.cell? ⟨p,1,none⟩=some (.int .i64 st)∧w'.cell? ⟨p,5,none⟩=some (.int .u64 (n:Nat))∧w'.cell? ⟨B2,0,none⟩=some (.string data)∧w'.cell? ⟨B3,0,none⟩=some (.int .i64 tm)∧Q w w') w'):=AC fun d hd=>by
  refine(Ie l u st ⟨n,data,false,tm⟩ d L c h hl hx (ht.on hd.2.2.2.2.2)).mono ?_
  rintro e w' ⟨v',rfl,o,q⟩
  obtain⟨A,c2,rfl⟩:=Ae o
  exact⟨A,_,c2,rfl,OwnV.low o hd.2.2.2.2.2.size,KS.out _ (hd.2.2.2.2.2.trans q)⟩
 obtain⟨A0,c0,rfl⟩:=ht.form
 clear h hl hx ht h1 h2 h3 h4 h5 g1 g2 g3 g4
 go_enter Tryz.func119,Tryz.ntmps119
 go_wp2_with fail
 refine wp_region_held_drew (S:=(fun w'=>w'.cell? ⟨B1,0,none⟩=some (.pointer (some ⟨p,0,none⟩))∧w'.cell? ⟨p,1,none⟩=some (.int .i64 st)∧w'.cell? ⟨p,5,none⟩=some (.int .u64 (n:Nat))∧w'.cell? ⟨B2,0,none⟩=some (.string data)∧w'.cell? ⟨B3,0,none⟩=some (.int .i64 tm)∧Q w w')) (by kernel_rfl) (KS.out _ (Q.refl w).drew) (fun hHeld=>?_)
 refine tkV 0 ?_
 refine tkV 1 ?_
 refine tkV 2 ?_
 refine tkV 3 ?_
 refine tkV 4 ?_
 refine tkV 5 ?_
 refine tkV 6 ?_
 refine tkV 7 ?_
 refine tkV 8 ?_
 refine tkV 9 ?_
 refine tkV 10 ?_
 refine tkV 11 ?_
 refine tkV 12 ?_
 refine aR [13] ?_
 refine aC rfl (fun K hK=>?_) aN
 go_simp
 go_at_call 120
 refine(PC.out _ (by assumption)).mono ?_
 rintro e w' ⟨A,n2,c2,rfl,o,hS⟩
 refine hK.out _ _ hS (fun hHeld=>?_)
 clear hK K
 refine pg ?_
 refine tkV 14 ?_
 refine tkV 15 ?_
 refine tkV 16 ?_
 refine tkV 17 ?_
 refine wpAnyH_done (by kernel_rfl) ?_ _
 go_wp2
 go_ret2
 exact⟨_,rfl,o,hS.2.2.2.2.2⟩
theorem QO(w:World)(u:Value)(l:List Ver)(B1 B3 p n:Nat)(st:Int)(tm:Int)(L:List Ver)(c:Nat)(h:J1 l st n tm L c)(hl:l.length≤900)(hn:n<18446744073709551616)(t1 : -9223372036854775808≤tm)(t2:tm≤9223372036854775807)(ht:Vers w w.heap.size u l)
  (h1:w.cell? ⟨B1,0,none⟩=some (.pointer (some ⟨p,0,none⟩))) (h2:w.cell? ⟨p,1,none⟩=some (.int .i64 st)) (h3:w.cell? ⟨p,5,none⟩=some (.int .u64 (n:Nat))) (h5:w.cell? ⟨B3,0,none⟩=some (.int .i64 tm))
  (g1:B1<w.heap.size) (g3:B3<w.heap.size) (g4:p<w.heap.size) :
  Calls Tryz.prog 121 #[u,.pointer (some ⟨B1,0,none⟩),.pointer (some ⟨B3,0,none⟩)] w fun e w'=>∃ v',e=.returned (.tuple #[v',.int .i64 (c:Nat)])∧OwnV w.heap.size w' v' L∧Q w w':=by
 have KS:Hid (∀ d,Q w d→(fun w'=>w'.cell? ⟨B1,0,none⟩=some (.pointer (some ⟨p,0,none⟩))∧w'.cell? ⟨p,1,none⟩=some (.int .i64 st)∧w'.cell? ⟨p,5,none⟩=some (.int .u64 (n:Nat))∧w'.cell? ⟨B3,0,none⟩=some (.int .i64 tm)∧Q w w') d):=AC fun d q=>⟨(q.cell g1).trans h1,(q.cell g4).trans h2,(q.cell g4).trans h3,(q.cell g3).trans h5,q⟩
 have PC:Hid (∀ d,(fun w'=>w'.cell? ⟨B1,0,none⟩=some (.pointer (some ⟨p,0,none⟩))∧w'.cell? ⟨p,1,none⟩=some (.int .i64 st)∧w'.cell? ⟨p,5,none⟩=some (.int .u64 (n:Nat))∧w'.cell? ⟨B3,0,none⟩=some (.int .i64 tm)∧Q w w') d→Calls Tryz.prog 122 #[u,.int .i64 st,.int .u64 (n:Nat),.int .i64 tm] d fun e w'=>∃ A n2 c2,e=.returned (.tuple #[.slice A n2 c2,.int .i64 (c:Nat)])∧OwnV w.heap.size w' (.slice A n2 c2) L∧(fun w'=>w'.cell? ⟨B1,0,none⟩=some (.pointer (some ⟨p,0,none⟩))∧w'.cell? ⟨p,1,none⟩=some (.int .i64 st)∧w'.cell? ⟨p,5,none⟩=some (.int .u64 (n:Nat))∧w'.cell? ⟨B3,0,none⟩=some (.int .i64 tm)∧Q w w') w'):=AC fun d hd=>by
  refine(LB l u st n tm d L c h hl hn t1 t2 (ht.on hd.2.2.2.2)).mono ?_
  rintro e w' ⟨v',rfl,o,q⟩
  obtain⟨A,c2,rfl⟩:=Ae o
  exact⟨A,_,c2,rfl,OwnV.low o hd.2.2.2.2.size,KS.out _ (hd.2.2.2.2.trans q)⟩
 obtain⟨A0,c0,rfl⟩:=ht.form
 clear h hl hn t1 t2 ht h1 h2 h3 h5 g1 g3 g4
 go_enter Tryz.func121,Tryz.ntmps121
 go_wp2_with fail
 refine wp_region_held_drew (S:=(fun w'=>w'.cell? ⟨B1,0,none⟩=some (.pointer (some ⟨p,0,none⟩))∧w'.cell? ⟨p,1,none⟩=some (.int .i64 st)∧w'.cell? ⟨p,5,none⟩=some (.int .u64 (n:Nat))∧w'.cell? ⟨B3,0,none⟩=some (.int .i64 tm)∧Q w w')) (by kernel_rfl) (KS.out _ (Q.refl w).drew) (fun hHeld=>?_)
 refine tkV 0 ?_
 refine tkV 1 ?_
 refine tkV 2 ?_
 refine tkV 3 ?_
 refine tkV 4 ?_
 refine tkV 5 ?_
 refine tkV 6 ?_
 refine tkV 7 ?_
 refine tkV 8 ?_
 refine tkV 9 ?_
 refine tkV 10 ?_
 refine aR [11] ?_
 refine aC rfl (fun K hK=>?_) aN
 go_simp
 go_at_call 122
 refine(PC.out _ (by assumption)).mono ?_
 rintro e w' ⟨A,n2,c2,rfl,o,hS⟩
 refine hK.out _ _ hS (fun hHeld=>?_)
 clear hK K
 refine pg ?_
 refine tkV 12 ?_
 refine tkV 13 ?_
 refine tkV 14 ?_
 refine tkV 15 ?_
 refine wpAnyH_done (by kernel_rfl) ?_ _
 go_wp2
 go_ret2
 exact⟨_,rfl,o,hS.2.2.2.2⟩
theorem NW(w:World)(u:Value)(l:List Ver)(B1 id:Nat)(L:List Ver)(c:Nat)(h:DropC l id L c)(hl:l.length≤900)(ht:Vers w w.heap.size u l)
  (h1:w.cell? ⟨B1,0,none⟩=some (.int .u64 (id:Nat))) :
  Calls Tryz.prog 123 #[u,.pointer (some ⟨B1,0,none⟩)] w fun e w'=>∃ v',e=.returned (.tuple #[v',.int .i64 (c:Nat)])∧OwnV w.heap.size w' v' L∧Q w w':=by
 have C:=AC (Jp l u id w L c h hl ht)
 obtain⟨A0,c0,rfl⟩:=ht.form
 clear h hl ht
 go_enter Tryz.func123,Tryz.ntmps123
 go_wp2_with fail
 refine(C.out).mono ?_
 rintro e w1 ⟨v1,rfl,o1,q1⟩
 obtain⟨A,c2,rfl⟩:=Ae o1
 have O:=AC o1
 clear o1
 go_wp2
 go_ret2
 exact⟨_,rfl,O.out,q1⟩
end
section
open Go.ChangeShapes Go.WideShapes Go.ChangeAt Go.RowKit Go.Shelf
def smE(l:List Ent):Prop:=By l∧∀ e∈l,e.L.length≤900
theorem El{wa w1:World}{B p:Nat}{t:TypeId}{v:Value}(b:Bx wa B t #[v])(g:Kp p wa w1)(hn:B≠p):∀ d,Q w1 d→d.cell? ⟨B,0,none⟩=some v∧B<d.heap.size:=fun d q=>by
 have b1:=(g.bx b hn).on q
 exact⟨by rw [b1.cell];rfl,b1.lt⟩
theorem Wk.lt{w:World}{p:Nat}{b:Bkt}{n t:Nat}{s:ByteArray}(h:Wk w p b n t s):p<w.heap.size:=by
 obtain⟨A1,c1,A2,c2,h,-⟩:=h
 exact h.lt
theorem Wk.stn{w:World}{p:Nat}{b:Bkt}{n t:Nat}{s:ByteArray}(h:Wk w p b n t s):w.cell? ⟨p,1,none⟩=some (.int .i64 b.st)∧w.cell? ⟨p,5,none⟩=some (.int .u64 (n:Nat)):=by
 obtain⟨A1,c1,A2,c2,h,-⟩:=h
 exact⟨(AO h).1.2.1,(AO h).1.2.2.2.2.2.1⟩
theorem Wk.okVs{w:World}{p:Nat}{b:Bkt}{n t:Nat}{s:ByteArray}(h:Wk w p b n t s):∀ e∈b.L,∀ x∈e.L,okV x:=by
 obtain⟨A1,c1,A2,c2,-,h⟩:=h
 exact h.1.okVs
theorem JC(w:World)(p:Nat)(b:Bkt)(n t:Nat)(s key data:ByteArray)(tm:Int)(d:Bkt)(m k:Nat)(h:TZ b n key data tm d m k)(hk:key.size≤1000)(hn:n<18446744073709551616)(hd:data.size≤maxLen)(t1 : -9223372036854775808≤tm)(t2:tm≤9223372036854775807)(hs:smE b.L)(H:Wk w p b n t s):
  Calls Tryz.prog 69 #[.pointer (some ⟨p,0,none⟩),.string key,.string data,.int .i64 tm] w fun e w'=>e=.returned (.int .i64 (k:Nat))∧Wk w' p d m t s∧Kp p w w':=by
 have hmf:=@HMF
 obtain⟨b1,m1,k1,hg,hr⟩:=h
 obtain⟨sL,sU,sS,sN,sm⟩:=DZ hg
 have hp:=H.lt
 have GV:=AC fun w1 (q:Q w w1)=>Co w1 p b n t s key b1 m1 k1 hg hk (H.on q)
 have Z1:=((Bx.new w 112 #[.pointer (some ⟨p,0,none⟩)]).alloc (.cells #[.string data] 9)).alloc (.cells #[.int .i64 tm] 3)
 have Z2:=(Bx.new (w.alloc (.cells #[.pointer (some ⟨p,0,none⟩)] 112)) 9 #[.string data]).alloc (.cells #[.int .i64 tm] 3)
 have Z3:=Bx.new ((w.alloc (.cells #[.pointer (some ⟨p,0,none⟩)] 112)).alloc (.cells #[.string data] 9)) 3 #[.int .i64 tm]
 have qa:=(((Q.refl w).alloc (.cells #[.pointer (some ⟨p,0,none⟩)] 112)).alloc (.cells #[.string data] 9)).alloc (.cells #[.int .i64 tm] 3)
 simp only [World.size_alloc] at Z2 Z3
 have BX:=AC (And.intro Z1 (And.intro Z2 (And.intro Z3 qa)))
 have HS:=AC hs
 have sm':m1<18446744073709551616:=by omega
 have HX:Hid (okV ⟨m1,data,false,tm⟩):=AC ⟨sm',hd,t1,t2⟩
 clear Z1 Z2 Z3 qa hg hs sm
 rcases hr with⟨h1,rfl,rfl,rfl⟩ | ⟨rfl,rfl,l,e,hM,hc⟩
 ·have h2:((k:Int) != 0)=true:=by simpa using h1
  clear h1 H
  go_enter Tryz.func69,Tryz.ntmps69
  go_wp2_with fail
  refine(GV.out _ BX.out.2.2.2).mono ?_
  rintro e w1 ⟨rfl,k1,g1⟩
  have K:=AC (And.intro k1 ((Kp.of BX.out.2.2.2).trans g1))
  clear k1 g1
  go_wp2
  go_ret
  exact⟨rfl,K.out.1,K.out.2⟩
 ·have SV:Hid (∀ w1,Wk w1 p b1 m t s→Kp p (((w.alloc (.cells #[.pointer (some ⟨p,0,none⟩)] 112)).alloc (.cells #[.string data] 9)).alloc (.cells #[.int .i64 tm] 3)) w1→
    Calls Tryz.prog 118 #[.pointer (some ⟨p,0,none⟩),.string key,.func (.func 119) #[] #[.pointer (some ⟨w.heap.size,0,none⟩),.pointer (some ⟨w.heap.size+1,0,none⟩),.pointer (some ⟨w.heap.size+1+1,0,none⟩)]] w1 fun e w'=>e=.returned (.int .i64 (k:Nat))∧Wk w' p d m t s∧Kp p w1 w'):=AC fun w1 K1 G1=>by
   have hl:(BY b1.L key).length≤900:=CB _ _ (by rw [sL];exact HS.out.2)
   have c1:=El BX.out.1 G1 (by omega)
   have c2:=El BX.out.2.1 G1 (by omega)
   have c3:=El BX.out.2.2.1 G1 (by omega)
   refine GI _ _ Rw w1 p b1 m t s key l e d k hc (fun w2 u q2 hu=>?_) (by rw [sL];exact HS.out.1) hk (by have:=EI hM;omega) (EH hM (CX key K1.okVs) HX.out) K1
   have K2:=K1.on q2
   exact O8 w2 u _ _ _ _ p m b1.st data tm l e hM hl HX.out hu (c1 _ q2).1 K2.stn.1 K2.stn.2 (c2 _ q2).1 (c3 _ q2).1 (c1 _ q2).2 (c2 _ q2).2 (c3 _ q2).2 K2.lt
  have c1:=AC fun w1 (G1:Kp p (((w.alloc (.cells #[.pointer (some ⟨p,0,none⟩)] 112)).alloc (.cells #[.string data] 9)).alloc (.cells #[.int .i64 tm] 3)) w1)=>(El BX.out.1 G1 (by omega) w1 (Q.refl _)).1
  clear hc hM H sm' hp
  go_enter Tryz.func69,Tryz.ntmps69
  go_wp2_with fail
  refine(GV.out _ BX.out.2.2.2).mono ?_
  rintro e w1 ⟨rfl,k1,g1⟩
  have K:=AC (And.intro k1 ((Kp.of BX.out.2.2.2).trans g1))
  have e1:=c1.out w1 g1
  have CS:=AC (SV.out w1 k1 g1)
  clear k1 g1
  go_wp2_with fail
  refine(CS.out).mono ?_
  rintro e w2 ⟨rfl,k2,g2⟩
  have K2:=AC (And.intro k2 (K.out.2.trans g2))
  clear k2 g2
  go_wp2
  go_ret
  exact⟨rfl,K2.out.1,K2.out.2⟩
theorem OU(w:World)(p:Nat)(b:Bkt)(n t:Nat)(s key:ByteArray)(tm:Int)(d:Bkt)(m k:Nat)(h:Tg b n key tm d m k)(hk:key.size≤1000)(hn:n<18446744073709551616)(t1 : -9223372036854775808≤tm)(t2:tm≤9223372036854775807)(hs:smE b.L)(H:Wk w p b n t s):
  Calls Tryz.prog 75 #[.pointer (some ⟨p,0,none⟩),.string key,.int .i64 tm] w fun e w'=>e=.returned (.int .i64 (k:Nat))∧Wk w' p d m t s∧Kp p w w':=by
 have hmf:=@HMF
 obtain⟨b1,m1,k1,hg,hr⟩:=h
 obtain⟨sL,sU,sS,sN,sm⟩:=DZ hg
 have hp:=H.lt
 have GV:=AC fun w1 (q:Q w w1)=>Co w1 p b n t s key b1 m1 k1 hg hk (H.on q)
 have Z1:=(Bx.new w 112 #[.pointer (some ⟨p,0,none⟩)]).alloc (.cells #[.int .i64 tm] 3)
 have Z3:=Bx.new (w.alloc (.cells #[.pointer (some ⟨p,0,none⟩)] 112)) 3 #[.int .i64 tm]
 have qa:=((Q.refl w).alloc (.cells #[.pointer (some ⟨p,0,none⟩)] 112)).alloc (.cells #[.int .i64 tm] 3)
 simp only [World.size_alloc] at Z3
 have BX:=AC (And.intro Z1 (And.intro Z3 qa))
 have HS:=AC hs
 have sm':m1<18446744073709551616:=by omega
 clear Z1 Z3 qa hg hs sm
 rcases hr with⟨h1,rfl,rfl,rfl⟩ | ⟨rfl,rfl,l,e,hM,hc⟩
 ·have h2:((k:Int) != 0)=true:=by simpa using h1
  clear h1 H
  go_enter Tryz.func75,Tryz.ntmps75
  go_wp2_with fail
  refine(GV.out _ BX.out.2.2).mono ?_
  rintro e w1 ⟨rfl,k1,g1⟩
  have K:=AC (And.intro k1 ((Kp.of BX.out.2.2).trans g1))
  clear k1 g1
  go_wp2
  go_ret
  exact⟨rfl,K.out.1,K.out.2⟩
 ·have SV:Hid (∀ w1,Wk w1 p b1 m t s→Kp p ((w.alloc (.cells #[.pointer (some ⟨p,0,none⟩)] 112)).alloc (.cells #[.int .i64 tm] 3)) w1→
    Calls Tryz.prog 118 #[.pointer (some ⟨p,0,none⟩),.string key,.func (.func 121) #[] #[.pointer (some ⟨w.heap.size,0,none⟩),.pointer (some ⟨w.heap.size+1,0,none⟩)]] w1 fun e w'=>e=.returned (.int .i64 (k:Nat))∧Wk w' p d m t s∧Kp p w1 w'):=AC fun w1 K1 G1=>by
   have hl:(BY b1.L key).length≤900:=CB _ _ (by rw [sL];exact HS.out.2)
   have c1:=El BX.out.1 G1 (by omega)
   have c3:=El BX.out.2.1 G1 (by omega)
   refine GI _ _ Rx w1 p b1 m t s key l e d k hc (fun w2 u q2 hu=>?_) (by rw [sL];exact HS.out.1) hk (by have:=Gg hM;omega) (Gf hM (CX key K1.okVs) sm' t1 t2) K1
   have K2:=K1.on q2
   exact QO w2 u _ _ _ p m b1.st tm l e hM hl sm' t1 t2 hu (c1 _ q2).1 K2.stn.1 K2.stn.2 (c3 _ q2).1 (c1 _ q2).2 (c3 _ q2).2 K2.lt
  have c1:=AC fun w1 (G1:Kp p ((w.alloc (.cells #[.pointer (some ⟨p,0,none⟩)] 112)).alloc (.cells #[.int .i64 tm] 3)) w1)=>(El BX.out.1 G1 (by omega) w1 (Q.refl _)).1
  clear hc hM H sm' hp t1 t2
  go_enter Tryz.func75,Tryz.ntmps75
  go_wp2_with fail
  refine(GV.out _ BX.out.2.2).mono ?_
  rintro e w1 ⟨rfl,k1,g1⟩
  have K:=AC (And.intro k1 ((Kp.of BX.out.2.2).trans g1))
  have e1:=c1.out w1 g1
  have CS:=AC (SV.out w1 k1 g1)
  clear k1 g1
  go_wp2_with fail
  refine(CS.out).mono ?_
  rintro e w2 ⟨rfl,k2,g2⟩
  have K2:=AC (And.intro k2 (K.out.2.trans g2))
  clear k2 g2
  go_wp2
  go_ret
  exact⟨rfl,K2.out.1,K2.out.2⟩
theorem Lr(w:World)(p:Nat)(b:Bkt)(n t:Nat)(s key:ByteArray)(id:Nat)(d:Bkt)(k:Nat)(h:Qg b key id d k)(hk:key.size≤1000)(hs:smE b.L)(H:Wk w p b n t s):
  Calls Tryz.prog 77 #[.pointer (some ⟨p,0,none⟩),.string key,.int .u64 (id:Nat)] w fun e w'=>e=.returned (.int .i64 (k:Nat))∧Wk w' p d n t s∧Kp p w w':=by
 have hmf:=@HMF
 have hp:=H.lt
 have KY:=AC fun d=>Cn key d hk
 have Z1:=Bx.new w 24 #[.int .u64 (id:Nat)]
 have qa:=(Q.refl w).alloc (.cells #[.int .u64 (id:Nat)] 24)
 have BX:=AC (And.intro Z1 qa)
 have HH:=AC H
 have HS:=AC hs
 clear Z1 qa hs H
 rcases h with⟨h0,rfl,rfl⟩ | ⟨h0,l,e,hM,hc⟩
 ·rw [h0] at KY
  clear h0
  go_enter Tryz.func77,Tryz.ntmps77
  go_wp2_with fail
  refine(KY.out _).mono ?_
  rintro e w1 ⟨rfl,q1⟩
  have q:=BX.out.2.trans q1
  go_wp2
  go_ret
  exact⟨rfl,HH.out.on q,Kp.of q⟩
 ·rw [h0] at KY
  have SV:Hid (∀ w1,Q (w.alloc (.cells #[.int .u64 (id:Nat)] 24)) w1→
    Calls Tryz.prog 118 #[.pointer (some ⟨p,0,none⟩),.string key,.func (.func 123) #[] #[.pointer (some ⟨w.heap.size,0,none⟩)]] w1 fun e w'=>e=.returned (.int .i64 (k:Nat))∧Wk w' p d n t s∧Kp p w1 w'):=AC fun w1 q1=>by
   have hl:(BY b.L key).length≤900:=CB _ _ HS.out.2
   have K1:=HH.out.on (BX.out.2.trans q1)
   refine GI _ _ P6 w1 p b n t s key l e d k hc (fun w2 u q2 hu=>?_) HS.out.1 hk (by have:=FG hM;omega) (FC hM (CX key K1.okVs)) K1
   exact NW w2 u _ _ id l e hM hl hu (by rw [(BX.out.1.on (q1.trans q2)).cell];rfl)
  clear hc hM h0 hp
  go_enter Tryz.func77,Tryz.ntmps77
  go_wp2_with fail
  refine(KY.out _).mono ?_
  rintro e w1 ⟨rfl,q1⟩
  have CS:=AC (SV.out w1 q1)
  go_wp2_with fail
  refine(CS.out).mono ?_
  rintro e w2 ⟨rfl,k2,g2⟩
  have K2:=AC (And.intro k2 ((Kp.of (BX.out.2.trans q1)).trans g2))
  clear k2 g2
  go_wp2
  go_ret
  exact⟨rfl,K2.out.1,K2.out.2⟩
end
section
open Go.ChangeShapes Go.WideShapes Go.ChangeAt Go.RowKit Go.Shelf
theorem OX(w:World)(p:Nat)(b:Bkt)(n t:Nat)(s:ByteArray)(id:Nat)(d:Bkt)(k:Nat)(h:Ti b id d k)(hs:smL b.U)(H:Wk w p b n t s):
  Calls Tryz.prog 79 #[.pointer (some ⟨p,0,none⟩),.int .u64 (id:Nat)] w fun e w'=>e=.returned (.int .i64 (k:Nat))∧Wk w' p d n t s∧Kp p w w':=by
 obtain⟨U,hA,rfl⟩:=h
 obtain⟨A1,c1,A2,c2,hb,hv⟩:=H
 have HB:=AC hb
 have HV:=AC hv
 clear hb hv
 have AB:=AC (F7 b.U (.slice A2 b.U.length c2) id w U k hA hs HV.out.2)
 obtain⟨⟨-,-,-,e3,-⟩,-⟩:=AO HB.out
 clear hA hs
 go_enter Tryz.func79,Tryz.ntmps79
 go_wp2_with fail
 refine(AB.out).mono ?_
 rintro e w1 ⟨v1,rfl,u1,q1⟩
 obtain⟨A5,c5,rfl⟩:=u1.form
 have U1:=AC u1
 obtain⟨⟨-,-,-,d3,-⟩,-,-,-,f3,-⟩:=AO (HB.out.on q1)
 clear u1
 go_wp2
 go_ret
 have g:=(Kp.of (p:=p) (Q.refl w1)).set 3 (.slice A5 U.length c5)
 have cm:=Ap (HB.out.on q1)
 exact⟨rfl,⟨A1,c1,A5,c5,Td (HB.out.on q1) U A5 c5,(HV.out.1.on q1).kp cm g,U1.out.kp cm g⟩,(Kp.of q1).trans g⟩
theorem OV(w:World)(p:Nat)(b:Bkt)(n t:Nat)(s key:ByteArray)(d:Bkt)(m k:Nat)(h:Th b n key d m k)(hk:key.size≤1000)(hs:smL b.U)(H:Wk w p b n t s):
  Calls Tryz.prog 61 #[.pointer (some ⟨p,0,none⟩),.string key] w fun e w'=>e=.returned (.int .i64 (k:Nat))∧Wk w' p d m t s∧Kp p w w':=by
 have KY:=AC fun d=>Cn key d hk
 have HH:=AC H
 have HS:=AC hs
 clear hs H
 rcases h with⟨h0,rfl,rfl,rfl⟩ | ⟨h0,b1,m1,k1,hg,hr⟩
 ·rw [h0] at KY
  clear h0
  go_enter Tryz.func61,Tryz.ntmps61
  go_wp2_with fail
  refine(KY.out _).mono ?_
  rintro e w1 ⟨rfl,q1⟩
  go_wp2
  go_ret
  exact⟨rfl,HH.out.on q1,Kp.of q1⟩
 rw [h0] at KY
 obtain⟨sL,sU,sS,sN,sm⟩:=Fu hg
 have G:=AC fun w1 (q:Q w w1)=>Je w1 p b n t s b1 m1 k1 hg (HH.out.on q)
 have HSU:=AC sU
 clear h0 sL sU sS sN sm hg
 rcases hr with⟨h1,rfl,rfl,rfl⟩ | ⟨rfl,rfl,U,hB,rfl⟩
 ·have h2:((k:Int) != 0)=true:=by simpa using h1
  clear h1
  go_enter Tryz.func61,Tryz.ntmps61
  go_wp2_with fail
  refine(KY.out _).mono ?_
  rintro e w1 ⟨rfl,q1⟩
  go_wp2_with fail
  refine(G.out _ q1).mono ?_
  rintro e w2 ⟨rfl,k2,g2⟩
  have K:=AC (And.intro k2 ((Kp.of q1).trans g2))
  clear k2 g2
  go_wp2
  go_ret
  exact⟨rfl,K.out.1,K.out.2⟩
 ·have HBC:=AC hB
  clear hB
  go_enter Tryz.func61,Tryz.ntmps61
  go_wp2_with fail
  refine(KY.out _).mono ?_
  rintro e w1 ⟨rfl,q1⟩
  go_wp2_with fail
  refine(G.out _ q1).mono ?_
  rintro e w2 ⟨rfl,k2,g2⟩
  obtain⟨A1,c1,A2,c2,hb,hv⟩:=k2
  have HB:=AC hb
  have HV:=AC hv
  have GG:=AC ((Kp.of q1).trans g2)
  have BEG:=AC fun d (q:Q w2 d)=>LV b1.U (.slice A2 b1.U.length c2) m key d U k HBC.out (by rw [HSU.out];exact HS.out) hk (HV.out.2.on q)
  have KF:Hid (∀ d,Q w2 d→(fun W=>Bx W p 109 (wcl b1 A1 c1 A2 c2 m t s)∧Q w2 W) d):=AC fun d q=>⟨HB.out.on q,q⟩
  have q9:=(Q.refl w2).drew
  clear hb hv g2
  go_wp2_with fail
  refine Aw (F:=(fun W=>Bx W p 109 (wcl b1 A1 c1 A2 c2 m t s)∧Q w2 W)) (st:=18) (by kernel_rfl) (KF.out _ q9) (fun hTill=>?_)
  refine AK (i:=0) (o:=_) (v:=?_) rfl (by kernel_rfl) (by kernel_rfl) (by kernel_rfl) (by decide) (fun _ _ _ h=>h) (Or.inl ⟨by rfl,?_⟩) (by first | (intro _;assumption) | (intro e;exact absurd e (by decide))) ?_
  rotate_left
  ·(intro wx hSw;go_simp;(try with_reducible rfl))
  refine pg ?_
  refine AK (i:=1) (o:=_) (v:=?_) rfl (by kernel_rfl) (by kernel_rfl) (by kernel_rfl) (by decide) (fun _ _ _ h=>h) (Or.inl ⟨by rfl,?_⟩) (by first | (intro _;assumption) | (intro e;exact absurd e (by decide))) ?_
  rotate_left
  ·(intro wx hSw;go_simp;(try with_reducible rfl))
  refine pg ?_
  refine AK (i:=2) (o:=_) (v:=?_) rfl (by kernel_rfl) (by kernel_rfl) (by kernel_rfl) (by decide) (fun _ _ _ h=>h) (Or.inl ⟨by rfl,?_⟩) (by first | (intro _;assumption) | (intro e;exact absurd e (by decide))) ?_
  rotate_left
  ·(intro wx hSw;go_simp;(try with_reducible rfl))
  refine pg ?_
  refine AK (i:=3) (o:=_) (v:=?_) rfl (by kernel_rfl) (by kernel_rfl) (by kernel_rfl) (by decide) (fun _ _ _ h=>h) (Or.inl ⟨by rfl,?_⟩) (by first | (intro _;assumption) | (intro e;exact absurd e (by decide))) ?_
  rotate_left
  ·(intro wx hSw;go_simp;(try with_reducible rfl))
  refine pg ?_
  refine AK (i:=4) (o:=_) (v:=?_) rfl (by kernel_rfl) (by kernel_rfl) (by kernel_rfl) (by decide) (fun _ _ _ h=>h) (Or.inl ⟨by rfl,?_⟩) (by first | (intro _;assumption) | (intro e;exact absurd e (by decide))) ?_
  rotate_left
  ·(intro wx hSw;go_simp;(try with_reducible rfl))
  refine pg ?_
  refine AL (i:=5) (o:=_) (v:=?_) rfl (by kernel_rfl) (by kernel_rfl) (by kernel_rfl) (by kernel_rfl) (by rfl) (fun _ _ _ h=>h) (Or.inl ⟨by rfl,?_⟩) (by assumption) ?_
  rotate_left
  ·(intro wx hSw;have hz:=(AO hSw.1).1.2.2.2.1;have hz2:=(AO hSw.1).1.2.2.2.2.2.1;go_simp;(try with_reducible rfl))
  refine pg ?_
  refine AK (i:=6) (o:=_) (v:=?_) rfl (by kernel_rfl) (by kernel_rfl) (by kernel_rfl) (by decide) (fun _ _ _ h=>h) (Or.inl ⟨by rfl,?_⟩) (by first | (intro _;assumption) | (intro e;exact absurd e (by decide))) ?_
  rotate_left
  ·(intro wx hSw;go_simp;(try with_reducible rfl))
  refine pg ?_
  refine AK (i:=7) (o:=_) (v:=?_) rfl (by kernel_rfl) (by kernel_rfl) (by kernel_rfl) (by decide) (fun _ _ _ h=>h) (Or.inl ⟨by rfl,?_⟩) (by first | (intro _;assumption) | (intro e;exact absurd e (by decide))) ?_
  rotate_left
  ·(intro wx hSw;go_simp;(try with_reducible rfl))
  refine pg ?_
  refine AK (i:=8) (o:=_) (v:=?_) rfl (by kernel_rfl) (by kernel_rfl) (by kernel_rfl) (by decide) (fun _ _ _ h=>h) (Or.inl ⟨by rfl,?_⟩) (by first | (intro _;assumption) | (intro e;exact absurd e (by decide))) ?_
  rotate_left
  ·(intro wx hSw;go_simp;(try with_reducible rfl))
  refine pg ?_
  refine AL (i:=9) (o:=_) (v:=?_) rfl (by kernel_rfl) (by kernel_rfl) (by kernel_rfl) (by kernel_rfl) (by rfl) (fun _ _ _ h=>h) (Or.inl ⟨by rfl,?_⟩) (by assumption) ?_
  rotate_left
  ·(intro wx hSw;have hz:=(AO hSw.1).1.2.2.2.1;have hz2:=(AO hSw.1).1.2.2.2.2.2.1;go_simp;(try with_reducible rfl))
  refine pg ?_
  refine AK (i:=10) (o:=_) (v:=?_) rfl (by kernel_rfl) (by kernel_rfl) (by kernel_rfl) (by decide) (fun _ _ _ h=>h) (Or.inl ⟨by rfl,?_⟩) (by first | (intro _;assumption) | (intro e;exact absurd e (by decide))) ?_
  rotate_left
  ·(intro wx hSw;go_simp;(try with_reducible rfl))
  refine pg ?_
  refine Af (i:=11) (o:=_) (by kernel_rfl) rfl (fun K hK=>?_)
  go_simp
  go_at_call 112
  refine(BEG.out _ q9).mono ?_
  rintro e w3 ⟨v3,rfl,u3,q3⟩
  obtain⟨A5,c5,rfl⟩:=u3.form
  have U3:=AC u3
  clear u3
  have q10:=q9.trans q3
  obtain⟨⟨-,-,-,d3,-⟩,-,-,-,f3,-⟩:=AO (HB.out.on q10)
  refine hK.out _ _ (KF.out _ (q9.trans q3)) (fun hTill=>?_)
  clear hK K
  refine pg ?_
  refine AK (i:=12) (o:=_) (v:=?_) rfl (by kernel_rfl) (by kernel_rfl) (by kernel_rfl) (by decide) (fun _ _ _ h=>h) (Or.inl ⟨by rfl,?_⟩) (by first | (intro _;assumption) | (intro e;exact absurd e (by decide))) ?_
  rotate_left
  ·(intro wx hSw;go_simp;(try with_reducible rfl))
  refine pg ?_
  refine AK (i:=13) (o:=_) (v:=?_) rfl (by kernel_rfl) (by kernel_rfl) (by kernel_rfl) (by decide) (fun _ _ _ h=>h) (Or.inl ⟨by rfl,?_⟩) (by first | (intro _;assumption) | (intro e;exact absurd e (by decide))) ?_
  rotate_left
  ·(intro wx hSw;go_simp;(try with_reducible rfl))
  refine pg ?_
  refine AK (i:=14) (o:=_) (v:=?_) rfl (by kernel_rfl) (by kernel_rfl) (by kernel_rfl) (by decide) (fun _ _ _ h=>h) (Or.inl ⟨by rfl,?_⟩) (by first | (intro _;assumption) | (intro e;exact absurd e (by decide))) ?_
  rotate_left
  ·(intro wx hSw;go_simp;(try with_reducible rfl))
  refine pg ?_
  refine AK (i:=15) (o:=_) (v:=?_) rfl (by kernel_rfl) (by kernel_rfl) (by kernel_rfl) (by decide) (fun _ _ _ h=>h) (Or.inl ⟨by rfl,?_⟩) (by first | (intro _;assumption) | (intro e;exact absurd e (by decide))) ?_
  rotate_left
  ·(intro wx hSw;go_simp;(try with_reducible rfl))
  refine pg ?_
  refine AK (i:=16) (o:=_) (v:=?_) rfl (by kernel_rfl) (by kernel_rfl) (by kernel_rfl) (by decide) (fun _ _ _ h=>h) (Or.inl ⟨by rfl,?_⟩) (by first | (intro _;assumption) | (intro e;exact absurd e (by decide))) ?_
  rotate_left
  ·(intro wx hSw;go_simp;(try with_reducible rfl))
  refine pg ?_
  refine AK (i:=17) (o:=_) (v:=?_) rfl (by kernel_rfl) (by kernel_rfl) (by kernel_rfl) (by decide) (fun _ _ _ h=>h) (Or.inl ⟨by rfl,?_⟩) (by first | (intro _;assumption) | (intro e;exact absurd e (by decide))) ?_
  rotate_left
  ·(intro wx hSw;go_simp;(try with_reducible rfl))
  refine pg ?_
  refine Ah (i:=18) (o:=_) (by kernel_rfl) rfl (by rfl) (fun K hK=>?_)
  go_simp
  refine hK.out _ _ ?_
  clear hK K
  refine pg ?_
  refine Ah (i:=19) (o:=_) (by kernel_rfl) rfl (by rfl) (fun K hK=>?_)
  go_simp
  refine hK.out _ _ ?_
  clear hK K
  refine pg ?_
  refine BR (by kernel_rfl) ?_ _
  go_wp2
  go_ret
  have g:=(Kp.of (p:=p) (Q.refl w3)).set 3 (.slice A5 U.length c5)
  have cm:=Ap (HB.out.on q10)
  exact⟨rfl,⟨A1,c1,A5,c5,Td (HB.out.on q10) U A5 c5,(HV.out.1.on q10).kp cm g,U3.out.kp cm g⟩,GG.out.trans ((Kp.of q10).trans g)⟩
theorem OM(w:World)(p:Nat)(b:Bkt)(n t:Nat)(s:ByteArray)(id:Nat)(x:Int)(y:ByteArray)(d:Bkt)(t' k:Nat)(h:Tf b id ⟨x,y⟩ d t' k)(hx:De ⟨x,y⟩)(hs:smL b.U)(H:Wk w p b n t s):
  Calls Tryz.prog 63 #[.pointer (some ⟨p,0,none⟩),.int .u64 (id:Nat),.agg #[.int .i64 x,.string y]] w fun e w'=>e=.returned (.int .i64 (k:Nat))∧Wk w' p d n t' s∧Kp p w w':=by
 obtain⟨U,hL,rfl⟩:=h
 obtain⟨A1,c1,A2,c2,hb,hv⟩:=H
 have HB:=AC hb
 have HV:=AC hv
 clear hb hv
 have LAY:=AC fun d (q:Q w d)=>Pf b.U (.slice A2 b.U.length c2) id ⟨x,y⟩ d U t' k hL hx hs (HV.out.2.on q)
 rw [prt] at LAY
 simp only at LAY
 have KF:Hid (∀ d,Q (w.alloc (.cells #[.int .i64 x,.string y] 64)) d→(fun W=>Bx W p 109 (wcl b A1 c1 A2 c2 n t s)∧(W.cell? ⟨w.heap.size,0,none⟩=some (.int .i64 x)∧W.cell? ⟨w.heap.size,1,none⟩=some (.string y))∧Q w W) d):=AC fun d q=>by
  have z:=(Bx.new w 64 #[.int .i64 x,.string y]).on q
  exact⟨HB.out.on (((Q.refl w).alloc _).trans q),⟨by rw [z.cell];rfl,by rw [z.cell];rfl⟩,((Q.refl w).alloc _).trans q⟩
 have q9:=(Q.refl (w.alloc (.cells #[.int .i64 x,.string y] 64))).drew
 have q8:=(Q.refl w).alloc (.cells #[.int .i64 x,.string y] 64)
 clear hL hx hs
 go_enter Tryz.func63,Tryz.ntmps63
 go_wp2_with fail
 refine Aw (F:=(fun W=>Bx W p 109 (wcl b A1 c1 A2 c2 n t s)∧(W.cell? ⟨w.heap.size,0,none⟩=some (.int .i64 x)∧W.cell? ⟨w.heap.size,1,none⟩=some (.string y))∧Q w W)) (st:=17) (by kernel_rfl) (KF.out _ q9) (fun hTill=>?_)
 refine AK (i:=0) (o:=_) (v:=?_) rfl (by kernel_rfl) (by kernel_rfl) (by kernel_rfl) (by decide) (fun _ _ _ h=>h) (Or.inl ⟨by rfl,?_⟩) (by first | (intro _;assumption) | (intro e;exact absurd e (by decide))) ?_
 rotate_left
 ·(intro wx hSw;go_simp;(try with_reducible rfl))
 refine pg ?_
 refine AK (i:=1) (o:=_) (v:=?_) rfl (by kernel_rfl) (by kernel_rfl) (by kernel_rfl) (by decide) (fun _ _ _ h=>h) (Or.inl ⟨by rfl,?_⟩) (by first | (intro _;assumption) | (intro e;exact absurd e (by decide))) ?_
 rotate_left
 ·(intro wx hSw;go_simp;(try with_reducible rfl))
 refine pg ?_
 refine AK (i:=2) (o:=_) (v:=?_) rfl (by kernel_rfl) (by kernel_rfl) (by kernel_rfl) (by decide) (fun _ _ _ h=>h) (Or.inl ⟨by rfl,?_⟩) (by first | (intro _;assumption) | (intro e;exact absurd e (by decide))) ?_
 rotate_left
 ·(intro wx hSw;go_simp;(try with_reducible rfl))
 refine pg ?_
 refine AK (i:=3) (o:=_) (v:=?_) rfl (by kernel_rfl) (by kernel_rfl) (by kernel_rfl) (by decide) (fun _ _ _ h=>h) (Or.inl ⟨by rfl,?_⟩) (by first | (intro _;assumption) | (intro e;exact absurd e (by decide))) ?_
 rotate_left
 ·(intro wx hSw;go_simp;(try with_reducible rfl))
 refine pg ?_
 refine AK (i:=4) (o:=_) (v:=?_) rfl (by kernel_rfl) (by kernel_rfl) (by kernel_rfl) (by decide) (fun _ _ _ h=>h) (Or.inl ⟨by rfl,?_⟩) (by first | (intro _;assumption) | (intro e;exact absurd e (by decide))) ?_
 rotate_left
 ·(intro wx hSw;go_simp;(try with_reducible rfl))
 refine pg ?_
 refine AK (i:=5) (o:=_) (v:=?_) rfl (by kernel_rfl) (by kernel_rfl) (by kernel_rfl) (by decide) (fun _ _ _ h=>h) (Or.inl ⟨by rfl,?_⟩) (by first | (intro _;assumption) | (intro e;exact absurd e (by decide))) ?_
 rotate_left
 ·(intro wx hSw;go_simp;(try with_reducible rfl))
 refine pg ?_
 refine AL (i:=6) (o:=_) (v:=?_) rfl (by kernel_rfl) (by kernel_rfl) (by kernel_rfl) (by kernel_rfl) (by rfl) (fun _ _ _ h=>h) (Or.inl ⟨by rfl,?_⟩) (by assumption) ?_
 rotate_left
 ·(intro wx hSw;have hz:=(AO hSw.1).1.2.2.2.1;have hz2:=hSw.2.1.1;have hz3:=hSw.2.1.2;go_simp;(try with_reducible rfl))
 refine pg ?_
 refine AK (i:=7) (o:=_) (v:=?_) rfl (by kernel_rfl) (by kernel_rfl) (by kernel_rfl) (by decide) (fun _ _ _ h=>h) (Or.inl ⟨by rfl,?_⟩) (by first | (intro _;assumption) | (intro e;exact absurd e (by decide))) ?_
 rotate_left
 ·(intro wx hSw;go_simp;(try with_reducible rfl))
 refine pg ?_
 refine AL (i:=8) (o:=_) (v:=?_) rfl (by kernel_rfl) (by kernel_rfl) (by kernel_rfl) (by kernel_rfl) (by rfl) (fun _ _ _ h=>h) (Or.inl ⟨by rfl,?_⟩) (by assumption) ?_
 rotate_left
 ·(intro wx hSw;have hz:=(AO hSw.1).1.2.2.2.1;have hz2:=hSw.2.1.1;have hz3:=hSw.2.1.2;go_simp;(try with_reducible rfl))
 refine pg ?_
 refine Af (i:=9) (o:=_) (by kernel_rfl) rfl (fun K hK=>?_)
 go_simp
 go_at_call 113
 refine(LAY.out _ (q8.trans q9)).mono ?_
 rintro e w3 ⟨v3,rfl,u3,q3⟩
 obtain⟨A5,c5,rfl⟩:=u3.form
 have U3:=AC u3
 clear u3
 have q10:=(q8.trans q9).trans q3
 obtain⟨⟨-,-,-,d3,-,-,d6,-⟩,-,-,-,f3,-,-,f6,-⟩:=AO (HB.out.on q10)
 refine hK.out _ _ (KF.out _ (q9.trans q3)) (fun hTill=>?_)
 clear hK K
 refine pg ?_
 refine AK (i:=10) (o:=_) (v:=?_) rfl (by kernel_rfl) (by kernel_rfl) (by kernel_rfl) (by decide) (fun _ _ _ h=>h) (Or.inl ⟨by rfl,?_⟩) (by first | (intro _;assumption) | (intro e;exact absurd e (by decide))) ?_
 rotate_left
 ·(intro wx hSw;go_simp;(try with_reducible rfl))
 refine pg ?_
 refine AK (i:=11) (o:=_) (v:=?_) rfl (by kernel_rfl) (by kernel_rfl) (by kernel_rfl) (by decide) (fun _ _ _ h=>h) (Or.inl ⟨by rfl,?_⟩) (by first | (intro _;assumption) | (intro e;exact absurd e (by decide))) ?_
 rotate_left
 ·(intro wx hSw;go_simp;(try with_reducible rfl))
 refine pg ?_
 refine AK (i:=12) (o:=_) (v:=?_) rfl (by kernel_rfl) (by kernel_rfl) (by kernel_rfl) (by decide) (fun _ _ _ h=>h) (Or.inl ⟨by rfl,?_⟩) (by first | (intro _;assumption) | (intro e;exact absurd e (by decide))) ?_
 rotate_left
 ·(intro wx hSw;go_simp;(try with_reducible rfl))
 refine pg ?_
 refine AK (i:=13) (o:=_) (v:=?_) rfl (by kernel_rfl) (by kernel_rfl) (by kernel_rfl) (by decide) (fun _ _ _ h=>h) (Or.inl ⟨by rfl,?_⟩) (by first | (intro _;assumption) | (intro e;exact absurd e (by decide))) ?_
 rotate_left
 ·(intro wx hSw;go_simp;(try with_reducible rfl))
 refine pg ?_
 refine AK (i:=14) (o:=_) (v:=?_) rfl (by kernel_rfl) (by kernel_rfl) (by kernel_rfl) (by decide) (fun _ _ _ h=>h) (Or.inl ⟨by rfl,?_⟩) (by first | (intro _;assumption) | (intro e;exact absurd e (by decide))) ?_
 rotate_left
 ·(intro wx hSw;go_simp;(try with_reducible rfl))
 refine pg ?_
 refine AK (i:=15) (o:=_) (v:=?_) rfl (by kernel_rfl) (by kernel_rfl) (by kernel_rfl) (by decide) (fun _ _ _ h=>h) (Or.inl ⟨by rfl,?_⟩) (by first | (intro _;assumption) | (intro e;exact absurd e (by decide))) ?_
 rotate_left
 ·(intro wx hSw;go_simp;(try with_reducible rfl))
 refine pg ?_
 refine AK (i:=16) (o:=_) (v:=?_) rfl (by kernel_rfl) (by kernel_rfl) (by kernel_rfl) (by decide) (fun _ _ _ h=>h) (Or.inl ⟨by rfl,?_⟩) (by first | (intro _;assumption) | (intro e;exact absurd e (by decide))) ?_
 rotate_left
 ·(intro wx hSw;go_simp;(try with_reducible rfl))
 refine pg ?_
 refine Ah (i:=17) (o:=_) (by kernel_rfl) rfl (by rfl) (fun K hK=>?_)
 go_simp
 refine hK.out _ _ ?_
 clear hK K
 refine pg ?_
 refine Ah (i:=18) (o:=_) (by kernel_rfl) rfl (by rfl) (fun K hK=>?_)
 go_simp
 refine hK.out _ _ ?_
 clear hK K
 refine pg ?_
 refine Ah (i:=19) (o:=_) (by kernel_rfl) rfl (by rfl) (fun K hK=>?_)
 go_simp
 refine hK.out _ _ ?_
 clear hK K
 refine pg ?_
 refine Ah (i:=20) (o:=_) (by kernel_rfl) rfl (by rfl) (fun K hK=>?_)
 go_simp
 refine hK.out _ _ ?_
 clear hK K
 refine pg ?_
 refine Ah (i:=21) (o:=_) (by kernel_rfl) rfl (by rfl) (fun K hK=>?_)
 go_simp
 refine hK.out _ _ ?_
 clear hK K
 refine pg ?_
 refine BR (by kernel_rfl) ?_ _
 go_wp2
 go_ret
 have g:=((Kp.of (p:=p) (Q.refl w3)).set 3 (.slice A5 U.length c5)).set 6 (.int .u32 (t':Nat))
 have cm:=Ap (HB.out.on q10)
 exact⟨rfl,⟨A1,c1,A5,c5,TS (Td (HB.out.on q10) U A5 c5) t',(HV.out.1.on q10).kp cm g,U3.out.kp cm g⟩,(Kp.of q10).trans g⟩
end
section
open Go.ChangeShapes Go.WideShapes Go.ChangeAt Go.RowKit Go.Shelf
theorem Pv{l:List Upl}{id:Nat}{u:Upl}{e:Nat}(h:FindC l id u e)(hs:smL l)(hk:∀ x∈l,∀ y∈x.L,De y):smU u∧(∀ y∈u.L,De y):=by
 have h0:smU noU∧(∀ y∈noU.L,De y):=⟨⟨by decide,by decide,by simp [noU]⟩,by simp [noU]⟩
 cases h with
 | arg=>exact h0
 | none=>exact h0
 | yes i hi=>exact⟨hs.2 _ (List.getElem_mem hi),hk _ (List.getElem_mem hi)⟩
theorem IK{u:Upl}{P:List Pce}{S T:List UInt8}{f:Nat}(h:WholeC u P S T f):S.length≤2000:=by
 cases h <;> first | (simp;done) | omega
theorem Upls.okParts{w:World}{v:Value}{l:List Upl}(h:Upls w w.heap.size v l):∀ x∈l,∀ y∈x.L,De y:=by
 intro x hx
 obtain⟨i,hi,rfl⟩:=List.getElem_of_mem hx
 obtain⟨a,c',hv,ha,A2,c2,hps,-⟩:=h.pick i hi
 exact hps.okAll
theorem OH(w:World)(p:Nat)(b:Bkt)(n t:Nat)(id:Nat)(P:List Pce)(z:Value)(tm:Int)(d:Bkt)(m:Nat)(s:ByteArray)(k:Nat)(h:Te b n id P tm d m s k)(hn:n<18446744073709551616)(t1 : -9223372036854775808≤tm)(t2:tm≤9223372036854775807)(hE:smE b.L)(hs:smL b.U)(hP:P.length≤1000)(hz:Pces w w.heap.size z P)(H:Wk w p b n t noS):
  Calls Tryz.prog 66 #[.pointer (some ⟨p,0,none⟩),.int .u64 (id:Nat),z,.int .i64 tm] w fun e w'=>e=.returned (.int .i64 (k:Nat))∧Wk w' p d m t s∧Kp p w w':=by
 obtain⟨u,e,hF,hr⟩:=h
 have HH:=AC H
 obtain⟨A1,c1,A2,c2,hb,hv⟩:=H
 have hp:=hb.lt
 have HB:=AC hb
 have HV:=AC hv
 obtain⟨⟨-,-,-,e3,-⟩,-⟩:=AO hb
 have hu:=Pv hF hs hv.2.okParts
 have FD:=AC (NA b.U (.slice A2 b.U.length c2) id w u e hF hs hv.2)
 have HZ:=AC hz
 have HS:=AC (And.intro hE hs)
 obtain⟨Az,cz,rfl⟩:=hz.form
 clear hb hv hF hs hE hz
 obtain⟨ui,uk,uL⟩:=u
 simp only [upl] at FD
 simp only at hu
 have HU:=AC hu
 clear hu
 rcases hr with⟨h1,rfl,rfl,rfl,rfl⟩ | ⟨rfl,S,T,f,hW,hr⟩
 ·have h2:((k:Int) != 0)=true:=by simpa using h1
  clear h1
  go_enter Tryz.func66,Tryz.ntmps66
  go_wp2_with fail
  refine(FD.out).mono ?_
  rintro e w1 ⟨v1,rfl,o1,q1⟩
  obtain⟨A5,c5,rfl⟩:=o1.form
  clear o1
  go_wp2
  go_ret
  have q:=q1.alloc (.cells #[.int .u64 (ui:Nat),.string uk,.slice A5 uL.length c5] 107)
  exact⟨rfl,HH.out.on q,Kp.of q⟩
 ·have WH:Hid (∀ d v,Q w d→OwnP w.heap.size d v uL→Calls Tryz.prog 115 #[.agg #[.int .u64 (ui:Nat),.string uk,v],.slice Az P.length cz] d fun r w'=>r=.returned (.tuple #[.string (mk S),.string (mk T),.int .i64 (f:Nat)])∧Q d w'):=AC fun d v q o=>Lp ⟨ui,uk,uL⟩ v P _ d S T f hW HU.out.1 hP (o.read HU.out.2) (HZ.out.on q)
  have hSl:=IK hW
  rcases hr with⟨h1,rfl,rfl,rfl,rfl⟩ | ⟨rfl,rfl,U,g,hA,hPu⟩
  ·have h2:((k:Int) != 0)=true:=by simpa using h1
   clear h1 hW hSl
   go_enter Tryz.func66,Tryz.ntmps66
   go_wp2_with fail
   refine(FD.out).mono ?_
   rintro e w1 ⟨v1,rfl,o1,q1⟩
   obtain⟨A5,c5,rfl⟩:=o1.form
   have q2:=(Q.refl w1).alloc (.cells #[.int .u64 (ui:Nat),.string uk,.slice A5 uL.length c5] 107)
   have C2:=AC (WH.out _ _ (q1.trans q2) (o1.on q2))
   clear o1
   go_wp2_with fail
   refine(C2.out).mono ?_
   rintro e w3 ⟨rfl,q3⟩
   have q:=(q1.trans q2).trans q3
   go_wp2
   go_ret
   exact⟨rfl,HH.out.on q,Kp.of q⟩
  ·have AB:=AC fun d (q:Q w d)=>F7 b.U (.slice A2 b.U.length c2) id d U g hA HS.out.2 (HV.out.2.on q)
   have hd:(mk S).size≤maxLen:=by show S.toArray.size≤maxLen;rw [List.size_toArray];unfold maxLen;omega
   have PU:=AC fun d (K:Wk d p {b with U:=U} n t (mk T))=>JC d p {b with U:=U} n t (mk T) uk (mk S) tm _ _ _ hPu HU.out.1.1 hn hd t1 t2 HS.out.1 K
   clear hW hSl hA hPu hd
   go_enter Tryz.func66,Tryz.ntmps66
   go_wp2_with fail
   refine(FD.out).mono ?_
   rintro e w1 ⟨v1,rfl,o1,q1⟩
   obtain⟨A5,c5,rfl⟩:=o1.form
   have q2:=(Q.refl w1).alloc (.cells #[.int .u64 (ui:Nat),.string uk,.slice A5 uL.length c5] 107)
   have Z:=Bx.new w1 107 #[.int .u64 (ui:Nat),.string uk,.slice A5 uL.length c5]
   have HZZ:=AC Z
   have C2:=AC (WH.out _ _ (q1.trans q2) (o1.on q2))
   clear o1 Z
   go_wp2_with fail
   refine(C2.out).mono ?_
   rintro e w3 ⟨rfl,q3⟩
   have q:=(q1.trans q2).trans q3
   obtain⟨⟨-,-,-,d3,-⟩,-⟩:=AO (HB.out.on q)
   go_wp2_with fail
   refine(AB.out _ q).mono ?_
   rintro e w4 ⟨v4,rfl,u4,q4⟩
   obtain⟨A6,c6,rfl⟩:=u4.form
   have qq:=q.trans q4
   obtain⟨⟨-,-,-,d3,-,-,-,d7⟩,-,-,-,f3,-,-,-,f7⟩:=AO (HB.out.on qq)
   have kk:w4.cell? ⟨w1.heap.size,1,none⟩=some (.string uk):=by rw [(HZZ.out.on (q3.trans q4)).cell];rfl
   have hne:w1.heap.size≠p:=by have:=q1.size;omega
   have gk:=((Kp.of (p:=p) (Q.refl w4)).set 3 (.slice A6 U.length c6)).set 7 (.string (mk T))
   have cm:=Ap (HB.out.on qq)
   have KW:Wk ((w4.setCell ⟨p,3,none⟩ (.slice A6 U.length c6)).setCell ⟨p,7,none⟩ (.string (mk T))) p {b with U:=U} n t (mk T):=⟨A1,c1,A6,c6,SZ (Td (HB.out.on qq) U A6 c6) (mk T),(HV.out.1.on qq).kp cm gk,u4.kp cm gk⟩
   have C4:=AC (PU.out _ KW)
   have GK:=AC ((Kp.of qq).trans gk)
   clear u4 gk cm KW
   go_wp2_with fail
   refine(C4.out).mono ?_
   rintro e w5 ⟨rfl,k5,g5⟩
   have K:=AC (And.intro k5 (GK.out.trans g5))
   clear k5 g5
   go_wp2
   go_ret
   exact⟨rfl,K.out.1,K.out.2⟩
end
end Go.Proofs.YtjjlbbfhmpbneaaGreat
