/-
  Contract of the document's Put, where it goes. Contract of the document's Put, where it goes.
-/
import Derived.Test.YtjjlbbfhmpbneaaGreatLgb
namespace Go.Proofs.YtjjlbbfhmpbneaaGreat
open AllReadyH renaming cons → aC, nil → aN
open Lib renaming hid → AC
set_option maxHeartbeats 16000000
set_option maxRecDepth 100000
set_option linter.unusedVariables false
set_option linter.unusedSimpArgs false
section
open Go.ChangeShapes Go.WideShapes Go.ChangeAt Go.RowKit
theorem Dh(l:List Ver)(v:Value)(s:Int)(x:Ver)(w:World)(hR:okP l)(hs:s=0∨s=2)(hm:B9 x=true)(h0:0<l.length)(htm:l[0].tm≤x.tm)(h20:20≤(woV l 0).length)(hl:l.length≤900)(hx:okV x)(ht:Vers w w.heap.size v l):
  Calls Tryz.prog 82 #[v,.int .i64 s,ver x] w fun e w'=>∃ v',e=.returned (.tuple #[v',.int .i64 6])∧OwnV w.heap.size w' v' []∧Q w w':=by
 have OKW:=AC (OK (id:=0) ht.okAll)
 have WO:Hid (∀ b,Q w b→Calls Tryz.prog 127 #[v,.int .u64 0] b fun e w'=>∃ v',e=.returned v'∧OwnV b.heap.size w' v' (woV l 0)∧Q b w'):=AC (fun b q=>Bi l v 0 b (by omega) (ht.on q))
 have T:=AC ht
 have qa:Q w (w.alloc (.cells #[.int .u64 (x.id:Nat),.string x.data,.bool x.mark,.int .i64 x.tm] 49)):=(Q.refl w).alloc _
 obtain⟨A,cc,rfl,-,-,-,hcs⟩:=ht
 obtain⟨a,rfl,ha,hat⟩:=hcs 0 h0
 rw [Nat.zero_mul,show a.add 0=a by cases a;simp [Addr.add]] at hat
 obtain⟨y,hy⟩:∃ y,y=l[0].tm:=⟨_,rfl⟩
 have HA:Hid (∀ b,Q w b→b.cell? ⟨a.block,a.off+3,none⟩=some (.int .i64 y)):=AC (fun b q=>by rw [hy];exact(hat.keep ha fun _ hp=>q.cell hp).2.2.2)
 have hlp:(0:Int)<(l.length:Int):=by omega
 rw [← hy] at htm
 clear hcs hat hy
 have KS:Hid (∀ b,Q (w.alloc (.cells #[.int .u64 (x.id:Nat),.string x.data,.bool x.mark,.int .i64 x.tm] 49)) b→(XRT w x a y) b):=AC (by
  intro b q
  obtain⟨b0,b1,b2,b3⟩:=Aa q
  exact⟨b0,b1,b2,b3,HA.out b (qa.trans q),q⟩)
 have CK:Hid (∀ b,(XRT w x a y) b→Calls Tryz.prog 102 #[.slice (some a) l.length cc] b fun e w'=>e=.returned (.bool true)∧(XRT w x a y) w'):=AC (by
  intro b h
  refine(AR l _ b true (.inl ⟨rfl,hR⟩) (by omega) (T.out.on (qa.trans h.2.2.2.2.2))).mono ?_
  rintro e w' ⟨rfl,q'⟩
  exact⟨rfl,KS.out _ (Q.trans h.2.2.2.2.2 q')⟩)
 have MA:Hid (∀ b,(XRT w x a y) b→Calls Tryz.prog 126 #[.agg #[.int .u64 (x.id:Nat),.string x.data,.bool x.mark,.int .i64 x.tm]] b fun e w'=>e=.returned (.bool true)∧(XRT w x a y) w'):=AC (by
  intro b h
  have M:=BF x b
  rw [hm,ver] at M
  refine M.mono ?_
  rintro e w' ⟨rfl,q'⟩
  exact⟨rfl,KS.out _ (Q.trans h.2.2.2.2.2 q')⟩)
 have SN:Hid ((XRT w x a y) (w.alloc (.cells #[.int .u64 (x.id:Nat),.string x.data,.bool x.mark,.int .i64 x.tm] 49)).drew):=AC (KS.out _ (Q.refl _).drew)
 have hs0:¬ s<0:=by omega
 have hs2:¬ 2<s:=by omega
 have hs1:¬ s=1:=by omega
 have hs1b:(s==1)=false:=by simpa using hs1
 have htm':¬ x.tm<y:=by omega
 clear hR hm hs
 rw [ver]
 go_enter Tryz.func82,Tryz.ntmps82
 go_wp2_with fail
 refine wp_region_held_drew (S:=(XRT w x a y)) (by kernel_rfl) SN.out (fun hHeld=>?_)
 refine tkV 0 ?_
 refine aR [1] ?_
 refine aC rfl (fun K hK=>?_) aN
 go_simp
 go_at_call 102
 refine(CK.out _ (by assumption)).mono ?_
 rintro e w' ⟨rfl,hS⟩
 refine hK.out _ _ hS (fun hHeld=>?_)
 clear hK K
 refine pg ?_
 refine tkB 2 (.bool false) ?_
 refine tkB 3 (.bool false) ?_
 refine tkV 4 ?_
 refine tkB 5 (.bool false) ?_
 refine tkB 6 (.bool false) ?_
 refine tkB 7 (.bool false) ?_
 refine tkV 8 ?_
 refine tkB 9 (.bool false) ?_
 refine tkB 10 (.bool false) ?_
 refine tkB 11 (.bool false) ?_
 refine tkV 12 ?_
 refine aR [13] ?_
 refine aC rfl (fun K hK=>?_) aN
 go_simp
 go_at_call 126
 refine(MA.out _ (by assumption)).mono ?_
 rintro e w' ⟨rfl,hS⟩
 refine hK.out _ _ hS (fun hHeld=>?_)
 clear hK K
 refine pg ?_
 refine tkB 14 (.bool false) ?_
 refine tkB 15 (.bool false) ?_
 refine tkB 16 (.bool false) ?_
 refine tkV 17 ?_
 refine tkB 18 (.bool false) ?_
 refine tkB 19 (.bool false) ?_
 refine tkU 20 ?_
 refine tkU 21 ?_
 refine tkU 22 ?_
 refine tkB 23 (.bool false) ?_
 refine tkB 24 (.bool false) ?_
 refine tkB 25 (.bool false) ?_
 refine tkV 26 ?_
 refine tkV 27 ?_
 refine tkB 28 (.bool true) ?_
 refine tkB 29 (.bool true) ?_
 refine tkV 30 ?_
 refine tkV 31 ?_
 refine tkV 32 ?_
 refine tkV 33 ?_
 refine tkV 34 ?_
 refine tkV 35 ?_
 refine tkB 36 (.bool false) ?_
 refine tkB 37 (.bool false) ?_
 refine tkB 38 (.bool false) ?_
 refine wpAnyH_done (by kernel_rfl) ?_ _
 obtain⟨b0,b1,b2,b3,c3,q0⟩:=hS
 clear KS CK MA SN c3 HA
 obtain⟨f0,f1,f2,f3⟩:=Gl q0
 have qs:Q w (w'.setCell ⟨w.heap.size,0,none⟩ (.int .u64 0)):=(qa.trans q0).set (Nat.le_refl _) _
 have BX:=AC (Dv q0)
 go_wp2_with fail
 refine(WO.out _ qs).mono ?_
 rintro e w4 ⟨v4,rfl,o4,q4⟩
 obtain⟨d0,d1,d2,d3⟩:=BX.out _ q4
 have qw:=qs.trans q4
 have T4:=AC (o4.vers OKW.out)
 obtain⟨A4,c4,rfl⟩:=Ae o4
 clear o4 b0 b1 b2 b3 f0 f1 f2 f3
 obtain⟨K,hk⟩:∃ K,(woV l 0).length=K:=⟨_,rfl⟩
 rw [hk] at h20 T4 ⊢
 have h20':(20:Int)≤(K:Int):=by omega
 clear hk
 go_wp2
 go_ret2
 exact⟨_,rfl,OwnV.nil _ _,qw⟩
theorem FZ(l:List Ver)(v:Value)(s:Int)(x:Ver)(w:World)(hR:okP l)(hs:s=0∨s=2)(hm:B9 x=true)(h0:0<l.length)(htm:l[0].tm≤x.tm)(h20:(woV l 0).length<20)(hl:l.length≤900)(hx:okV x)(ht:Vers w w.heap.size v l):
  Calls Tryz.prog 82 #[v,.int .i64 s,ver x] w fun e w'=>∃ v',e=.returned (.tuple #[v',.int .i64 0])∧OwnV w.heap.size w' v' (BI x :: woV l 0)∧Q w w':=by
 have OKW:=AC (OK (id:=0) ht.okAll)
 have WO:Hid (∀ b,Q w b→Calls Tryz.prog 127 #[v,.int .u64 0] b fun e w'=>∃ v',e=.returned v'∧OwnV b.heap.size w' v' (woV l 0)∧Q b w'):=AC (fun b q=>Bi l v 0 b (by omega) (ht.on q))
 have T:=AC ht
 have qa:Q w (w.alloc (.cells #[.int .u64 (x.id:Nat),.string x.data,.bool x.mark,.int .i64 x.tm] 49)):=(Q.refl w).alloc _
 obtain⟨A,cc,rfl,-,-,-,hcs⟩:=ht
 obtain⟨a,rfl,ha,hat⟩:=hcs 0 h0
 rw [Nat.zero_mul,show a.add 0=a by cases a;simp [Addr.add]] at hat
 obtain⟨y,hy⟩:∃ y,y=l[0].tm:=⟨_,rfl⟩
 have HA:Hid (∀ b,Q w b→b.cell? ⟨a.block,a.off+3,none⟩=some (.int .i64 y)):=AC (fun b q=>by rw [hy];exact(hat.keep ha fun _ hp=>q.cell hp).2.2.2)
 have hlp:(0:Int)<(l.length:Int):=by omega
 rw [← hy] at htm
 clear hcs hat hy
 have KS:Hid (∀ b,Q (w.alloc (.cells #[.int .u64 (x.id:Nat),.string x.data,.bool x.mark,.int .i64 x.tm] 49)) b→(XRT w x a y) b):=AC (by
  intro b q
  obtain⟨b0,b1,b2,b3⟩:=Aa q
  exact⟨b0,b1,b2,b3,HA.out b (qa.trans q),q⟩)
 have CK:Hid (∀ b,(XRT w x a y) b→Calls Tryz.prog 102 #[.slice (some a) l.length cc] b fun e w'=>e=.returned (.bool true)∧(XRT w x a y) w'):=AC (by
  intro b h
  refine(AR l _ b true (.inl ⟨rfl,hR⟩) (by omega) (T.out.on (qa.trans h.2.2.2.2.2))).mono ?_
  rintro e w' ⟨rfl,q'⟩
  exact⟨rfl,KS.out _ (Q.trans h.2.2.2.2.2 q')⟩)
 have MA:Hid (∀ b,(XRT w x a y) b→Calls Tryz.prog 126 #[.agg #[.int .u64 (x.id:Nat),.string x.data,.bool x.mark,.int .i64 x.tm]] b fun e w'=>e=.returned (.bool true)∧(XRT w x a y) w'):=AC (by
  intro b h
  have M:=BF x b
  rw [hm,ver] at M
  refine M.mono ?_
  rintro e w' ⟨rfl,q'⟩
  exact⟨rfl,KS.out _ (Q.trans h.2.2.2.2.2 q')⟩)
 have SN:Hid ((XRT w x a y) (w.alloc (.cells #[.int .u64 (x.id:Nat),.string x.data,.bool x.mark,.int .i64 x.tm] 49)).drew):=AC (KS.out _ (Q.refl _).drew)
 have hs0:¬ s<0:=by omega
 have hs2:¬ 2<s:=by omega
 have hs1:¬ s=1:=by omega
 have hs1b:(s==1)=false:=by simpa using hs1
 have htm':¬ x.tm<y:=by omega
 clear hR hm hs
 rw [ver]
 go_enter Tryz.func82,Tryz.ntmps82
 go_wp2_with fail
 refine wp_region_held_drew (S:=(XRT w x a y)) (by kernel_rfl) SN.out (fun hHeld=>?_)
 refine tkV 0 ?_
 refine aR [1] ?_
 refine aC rfl (fun K hK=>?_) aN
 go_simp
 go_at_call 102
 refine(CK.out _ (by assumption)).mono ?_
 rintro e w' ⟨rfl,hS⟩
 refine hK.out _ _ hS (fun hHeld=>?_)
 clear hK K
 refine pg ?_
 refine tkB 2 (.bool false) ?_
 refine tkB 3 (.bool false) ?_
 refine tkV 4 ?_
 refine tkB 5 (.bool false) ?_
 refine tkB 6 (.bool false) ?_
 refine tkB 7 (.bool false) ?_
 refine tkV 8 ?_
 refine tkB 9 (.bool false) ?_
 refine tkB 10 (.bool false) ?_
 refine tkB 11 (.bool false) ?_
 refine tkV 12 ?_
 refine aR [13] ?_
 refine aC rfl (fun K hK=>?_) aN
 go_simp
 go_at_call 126
 refine(MA.out _ (by assumption)).mono ?_
 rintro e w' ⟨rfl,hS⟩
 refine hK.out _ _ hS (fun hHeld=>?_)
 clear hK K
 refine pg ?_
 refine tkB 14 (.bool false) ?_
 refine tkB 15 (.bool false) ?_
 refine tkB 16 (.bool false) ?_
 refine tkV 17 ?_
 refine tkB 18 (.bool false) ?_
 refine tkB 19 (.bool false) ?_
 refine tkU 20 ?_
 refine tkU 21 ?_
 refine tkU 22 ?_
 refine tkB 23 (.bool false) ?_
 refine tkB 24 (.bool false) ?_
 refine tkB 25 (.bool false) ?_
 refine tkV 26 ?_
 refine tkV 27 ?_
 refine tkB 28 (.bool true) ?_
 refine tkB 29 (.bool true) ?_
 refine tkV 30 ?_
 refine tkV 31 ?_
 refine tkV 32 ?_
 refine tkV 33 ?_
 refine tkV 34 ?_
 refine tkV 35 ?_
 refine tkB 36 (.bool false) ?_
 refine tkB 37 (.bool false) ?_
 refine tkB 38 (.bool false) ?_
 refine wpAnyH_done (by kernel_rfl) ?_ _
 obtain⟨b0,b1,b2,b3,c3,q0⟩:=hS
 clear KS CK MA SN c3 HA
 obtain⟨f0,f1,f2,f3⟩:=Gl q0
 have qs:Q w (w'.setCell ⟨w.heap.size,0,none⟩ (.int .u64 0)):=(qa.trans q0).set (Nat.le_refl _) _
 have BX:=AC (Dv q0)
 go_wp2_with fail
 refine(WO.out _ qs).mono ?_
 rintro e w4 ⟨v4,rfl,o4,q4⟩
 obtain⟨d0,d1,d2,d3⟩:=BX.out _ q4
 have qw:=qs.trans q4
 have T4:=AC (o4.vers OKW.out)
 obtain⟨A4,c4,rfl⟩:=Ae o4
 clear o4 b0 b1 b2 b3 f0 f1 f2 f3
 obtain⟨K,hk⟩:∃ K,(woV l 0).length=K:=⟨_,rfl⟩
 rw [hk] at h20 T4 ⊢
 have h20':¬ (20:Int)≤(K:Int):=by omega
 have OW:=GO w.heap.size w4 (BI x) qw.size
 have TB:=T4.out.on ((Q.refl w4).alloc (.cells #[.int .u64 0,.string x.data,.bool x.mark,.int .i64 x.tm] 49))
 have hs:w.heap.size≤(w4.alloc (.cells #[.int .u64 0,.string x.data,.bool x.mark,.int .i64 x.tm] 49)).heap.size:=Q.size (qw.alloc _)
 go_wp2_with (at_builtin;refine AZ _ rfl _ _ 77 Tryz.underlying77 rfl w.heap.size _ _ [BI x] (woV l 0) rfl rfl OW TB hs ?ha ?_;(case ha=>first | (simp;done) | (simp;omega) | omega);intro v2 w2 o2 g2;have b2:=BA (w0:=w) (qw.alloc _) hs OW g2;clear g2)
 go_ret2
 exact⟨_,rfl,by simpa using o2,b2⟩
end
section
open Go.ChangeShapes Go.WideShapes Go.ChangeAt Go.RowKit
theorem Hd(l:List Ver)(v:Value)(s:Int)(x:Ver)(w:World)(hR:okP l)(hs:s=0∨s=2)(hm:B9 x=true)(hn:l=[])(h20:(woV l 0).length<20)(hl:l.length≤900)(hx:okV x)(ht:Vers w w.heap.size v l):
  Calls Tryz.prog 82 #[v,.int .i64 s,ver x] w fun e w'=>∃ v',e=.returned (.tuple #[v',.int .i64 0])∧OwnV w.heap.size w' v' (BI x :: woV l 0)∧Q w w':=by
 have OKW:=AC (OK (id:=0) ht.okAll)
 have WO:Hid (∀ b,Q w b→Calls Tryz.prog 127 #[v,.int .u64 0] b fun e w'=>∃ v',e=.returned v'∧OwnV b.heap.size w' v' (woV l 0)∧Q b w'):=AC (fun b q=>Bi l v 0 b (by omega) (ht.on q))
 have T:=AC ht
 have qa:Q w (w.alloc (.cells #[.int .u64 (x.id:Nat),.string x.data,.bool x.mark,.int .i64 x.tm] 49)):=(Q.refl w).alloc _
 obtain⟨A,cc,rfl⟩:=ht.shape
 clear ht
 have KS:Hid (∀ b,Q (w.alloc (.cells #[.int .u64 (x.id:Nat),.string x.data,.bool x.mark,.int .i64 x.tm] 49)) b→(XRS w x) b):=AC (by
  intro b q
  obtain⟨b0,b1,b2,b3⟩:=Aa q
  exact⟨b0,b1,b2,b3,q⟩)
 have CK:Hid (∀ b,(XRS w x) b→Calls Tryz.prog 102 #[.slice A l.length cc] b fun e w'=>e=.returned (.bool true)∧(XRS w x) w'):=AC (by
  intro b h
  refine(AR l _ b true (.inl ⟨rfl,hR⟩) (by omega) (T.out.on (qa.trans h.2.2.2.2))).mono ?_
  rintro e w' ⟨rfl,q'⟩
  exact⟨rfl,KS.out _ (Q.trans h.2.2.2.2 q')⟩)
 have MA:Hid (∀ b,(XRS w x) b→Calls Tryz.prog 126 #[.agg #[.int .u64 (x.id:Nat),.string x.data,.bool x.mark,.int .i64 x.tm]] b fun e w'=>e=.returned (.bool true)∧(XRS w x) w'):=AC (by
  intro b h
  have M:=BF x b
  rw [hm,ver] at M
  refine M.mono ?_
  rintro e w' ⟨rfl,q'⟩
  exact⟨rfl,KS.out _ (Q.trans h.2.2.2.2 q')⟩)
 have SN:Hid ((XRS w x) (w.alloc (.cells #[.int .u64 (x.id:Nat),.string x.data,.bool x.mark,.int .i64 x.tm] 49)).drew):=AC (KS.out _ (Q.refl _).drew)
 have hs0:¬ s<0:=by omega
 have hs2:¬ 2<s:=by omega
 have hs1:¬ s=1:=by omega
 have hs1b:(s==1)=false:=by simpa using hs1
 clear hR hm hs
 subst hn
 simp only [List.length_nil] at *
 rw [ver]
 go_enter Tryz.func82,Tryz.ntmps82
 go_wp2_with fail
 refine wp_region_held_drew (S:=(XRS w x)) (by kernel_rfl) SN.out (fun hHeld=>?_)
 refine tkV 0 ?_
 refine aR [1] ?_
 refine aC rfl (fun K hK=>?_) aN
 go_simp
 go_at_call 102
 refine(CK.out _ (by assumption)).mono ?_
 rintro e w' ⟨rfl,hS⟩
 refine hK.out _ _ hS (fun hHeld=>?_)
 clear hK K
 refine pg ?_
 refine tkB 2 (.bool false) ?_
 refine tkB 3 (.bool false) ?_
 refine tkV 4 ?_
 refine tkB 5 (.bool false) ?_
 refine tkB 6 (.bool false) ?_
 refine tkB 7 (.bool false) ?_
 refine tkV 8 ?_
 refine tkB 9 (.bool false) ?_
 refine tkB 10 (.bool false) ?_
 refine tkB 11 (.bool false) ?_
 refine tkV 12 ?_
 refine aR [13] ?_
 refine aC rfl (fun K hK=>?_) aN
 go_simp
 go_at_call 126
 refine(MA.out _ (by assumption)).mono ?_
 rintro e w' ⟨rfl,hS⟩
 refine hK.out _ _ hS (fun hHeld=>?_)
 clear hK K
 refine pg ?_
 refine tkB 14 (.bool false) ?_
 refine tkB 15 (.bool false) ?_
 refine tkB 16 (.bool false) ?_
 refine tkV 17 ?_
 refine tkB 18 (.bool false) ?_
 refine tkB 19 (.bool false) ?_
 refine tkU 20 ?_
 refine tkU 21 ?_
 refine tkU 22 ?_
 refine tkB 23 (.bool false) ?_
 refine tkB 24 (.bool false) ?_
 refine tkB 25 (.bool false) ?_
 refine tkV 26 ?_
 refine tkV 27 ?_
 refine tkB 28 (.bool false) ?_
 refine tkB 29 (.bool false) ?_
 refine tkU 30 ?_
 refine tkU 31 ?_
 refine tkU 32 ?_
 refine tkU 33 ?_
 refine tkU 34 ?_
 refine tkU 35 ?_
 refine tkU 36 ?_
 refine tkB 37 (.bool false) ?_
 refine tkB 38 (.bool false) ?_
 refine wpAnyH_done (by kernel_rfl) ?_ _
 obtain⟨b0,b1,b2,b3,q0⟩:=hS
 clear KS CK MA SN
 obtain⟨f0,f1,f2,f3⟩:=Gl q0
 have qs:Q w (w'.setCell ⟨w.heap.size,0,none⟩ (.int .u64 0)):=(qa.trans q0).set (Nat.le_refl _) _
 have BX:=AC (Dv q0)
 go_wp2_with fail
 refine(WO.out _ qs).mono ?_
 rintro e w4 ⟨v4,rfl,o4,q4⟩
 obtain⟨d0,d1,d2,d3⟩:=BX.out _ q4
 have qw:=qs.trans q4
 have T4:=AC (o4.vers OKW.out)
 obtain⟨A4,c4,rfl⟩:=Ae o4
 clear o4 b0 b1 b2 b3 f0 f1 f2 f3
 obtain⟨K,hk⟩:∃ K,(woV [] 0).length=K:=⟨_,rfl⟩
 rw [hk] at h20 T4 ⊢
 have h20':¬ (20:Int)≤(K:Int):=by omega
 have OW:=GO w.heap.size w4 (BI x) qw.size
 have TB:=T4.out.on ((Q.refl w4).alloc (.cells #[.int .u64 0,.string x.data,.bool x.mark,.int .i64 x.tm] 49))
 have hs:w.heap.size≤(w4.alloc (.cells #[.int .u64 0,.string x.data,.bool x.mark,.int .i64 x.tm] 49)).heap.size:=Q.size (qw.alloc _)
 go_wp2_with (at_builtin;refine AZ _ rfl _ _ 77 Tryz.underlying77 rfl w.heap.size _ _ [BI x] (woV [] 0) rfl rfl OW TB hs ?ha ?_;(case ha=>first | (simp;done) | (simp;omega) | omega);intro v2 w2 o2 g2;have b2:=BA (w0:=w) (qw.alloc _) hs OW g2;clear g2)
 go_ret2
 exact⟨_,rfl,by simpa using o2,b2⟩
end
end Go.Proofs.YtjjlbbfhmpbneaaGreat
