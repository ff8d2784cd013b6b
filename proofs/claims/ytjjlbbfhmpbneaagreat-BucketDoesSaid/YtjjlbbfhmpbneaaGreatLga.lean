/-
  Contract of the document's Put.
-/
import Derived.Test.YtjjlbbfhmpbneaaGreatLg
namespace Go.Proofs.YtjjlbbfhmpbneaaGreat
open AllReadyH renaming cons → aC, nil → aN
open Lib renaming hid → AC
set_option maxHeartbeats 16000000
set_option maxRecDepth 100000
set_option linter.unusedVariables false
set_option linter.unusedSimpArgs false
section
open Go.ChangeShapes Go.WideShapes Go.ChangeAt Go.RowKit
abbrev XRS(w:World)(x:Ver):World→Prop:=(fun w'=>w'.cell? ⟨w.heap.size,0,none⟩=some (.int .u64 (x.id:Nat))∧w'.cell? ⟨w.heap.size,1,none⟩=some (.string x.data)∧w'.cell? ⟨w.heap.size,2,none⟩=some (.bool x.mark)∧w'.cell? ⟨w.heap.size,3,none⟩=some (.int .i64 x.tm)∧Q (w.alloc (.cells #[.int .u64 (x.id:Nat),.string x.data,.bool x.mark,.int .i64 x.tm] 49)) w')
abbrev XRT(w:World)(x:Ver)(a:Addr)(y:Int):World→Prop:=(fun w'=>w'.cell? ⟨w.heap.size,0,none⟩=some (.int .u64 (x.id:Nat))∧w'.cell? ⟨w.heap.size,1,none⟩=some (.string x.data)∧w'.cell? ⟨w.heap.size,2,none⟩=some (.bool x.mark)∧w'.cell? ⟨w.heap.size,3,none⟩=some (.int .i64 x.tm)∧w'.cell? ⟨a.block,a.off+3,none⟩=some (.int .i64 y)∧Q (w.alloc (.cells #[.int .u64 (x.id:Nat),.string x.data,.bool x.mark,.int .i64 x.tm] 49)) w')
theorem Ot(l:List Ver)(v:Value)(s:Int)(x:Ver)(w:World)(hR:¬ okP l)(hl:l.length≤900)(hx:okV x)(ht:Vers w w.heap.size v l):
  Calls Tryz.prog 82 #[v,.int .i64 s,ver x] w fun e w'=>∃ v',e=.returned (.tuple #[v',.int .i64 1])∧OwnV w.heap.size w' v' []∧Q w w':=by
 have T:=AC ht
 have qa:Q w (w.alloc (.cells #[.int .u64 (x.id:Nat),.string x.data,.bool x.mark,.int .i64 x.tm] 49)):=(Q.refl w).alloc _
 obtain⟨A,cc,rfl⟩:=ht.shape
 clear ht
 have KS:Hid (∀ b,Q (w.alloc (.cells #[.int .u64 (x.id:Nat),.string x.data,.bool x.mark,.int .i64 x.tm] 49)) b→(XRS w x) b):=AC (by
  intro b q
  obtain⟨b0,b1,b2,b3⟩:=Aa q
  exact⟨b0,b1,b2,b3,q⟩)
 have CK:Hid (∀ b,(XRS w x) b→Calls Tryz.prog 102 #[.slice A l.length cc] b fun e w'=>e=.returned (.bool false)∧(XRS w x) w'):=AC (by
  intro b h
  refine(AR l _ b false (.inr ⟨rfl,hR⟩) (by omega) (T.out.on (qa.trans h.2.2.2.2))).mono ?_
  rintro e w' ⟨rfl,q'⟩
  exact⟨rfl,KS.out _ (Q.trans h.2.2.2.2 q')⟩)
 have SN:Hid ((XRS w x) (w.alloc (.cells #[.int .u64 (x.id:Nat),.string x.data,.bool x.mark,.int .i64 x.tm] 49)).drew):=AC (KS.out _ (Q.refl _).drew)
 clear hR
 rw [ver]
 go_enter Tryz.func82,Tryz.ntmps82
 go_wp2_with fail
 refine wp_region_held_drew (S:=(XRS w x)) (by kernel_rfl) SN.out (fun hHeld=>?_)
 refine tkV 0 ?_
 refine aR [1] ?_
 refine aC rfl (fun K hK=>?_) aN
 go_simp
 go_at_call 102
 refine(CK.out _ (by assumption)).mono ?_
 rintro e w' ⟨rfl,hS⟩
 refine hK.out _ _ hS (fun hHeld=>?_)
 clear hK K
 refine pg ?_
 refine tkB 2 (.bool true) ?_
 refine tkB 3 (.bool true) ?_
 refine tkU 4 ?_
 refine tkU 5 ?_
 refine tkB 6 (.bool true) ?_
 refine tkB 7 (.bool true) ?_
 refine tkU 8 ?_
 refine tkU 9 ?_
 refine tkB 10 (.bool true) ?_
 refine tkB 11 (.bool true) ?_
 refine tkU 12 ?_
 refine tkU 13 ?_
 refine tkU 14 ?_
 refine tkB 15 (.bool true) ?_
 refine tkB 16 (.bool true) ?_
 refine tkU 17 ?_
 refine tkU 18 ?_
 refine tkU 19 ?_
 refine tkU 20 ?_
 refine tkU 21 ?_
 refine tkU 22 ?_
 refine tkU 23 ?_
 refine tkB 24 (.bool true) ?_
 refine tkB 25 (.bool true) ?_
 refine tkU 26 ?_
 refine tkU 27 ?_
 refine tkU 28 ?_
 refine tkU 29 ?_
 refine tkU 30 ?_
 refine tkU 31 ?_
 refine tkU 32 ?_
 refine tkU 33 ?_
 refine tkU 34 ?_
 refine tkU 35 ?_
 refine tkU 36 ?_
 refine tkU 37 ?_
 refine tkB 38 (.bool true) ?_
 refine wpAnyH_done (by kernel_rfl) ?_ _
 have q:=qa.trans hS.2.2.2.2
 clear KS CK SN hS
 go_wp2
 go_ret2
 exact⟨_,rfl,OwnV.nil _ _,q⟩
theorem Oq(l:List Ver)(v:Value)(s:Int)(x:Ver)(w:World)(hR:okP l)(hs:s<0)(hl:l.length≤900)(hx:okV x)(ht:Vers w w.heap.size v l):
  Calls Tryz.prog 82 #[v,.int .i64 s,ver x] w fun e w'=>∃ v',e=.returned (.tuple #[v',.int .i64 1])∧OwnV w.heap.size w' v' []∧Q w w':=by
 have T:=AC ht
 have qa:Q w (w.alloc (.cells #[.int .u64 (x.id:Nat),.string x.data,.bool x.mark,.int .i64 x.tm] 49)):=(Q.refl w).alloc _
 obtain⟨A,cc,rfl⟩:=ht.shape
 clear ht
 have KS:Hid (∀ b,Q (w.alloc (.cells #[.int .u64 (x.id:Nat),.string x.data,.bool x.mark,.int .i64 x.tm] 49)) b→(XRS w x) b):=AC (by
  intro b q
  obtain⟨b0,b1,b2,b3⟩:=Aa q
  exact⟨b0,b1,b2,b3,q⟩)
 have CK:Hid (∀ b,(XRS w x) b→Calls Tryz.prog 102 #[.slice A l.length cc] b fun e w'=>e=.returned (.bool true)∧(XRS w x) w'):=AC (by
  intro b h
  refine(AR l _ b true (.inl ⟨rfl,hR⟩) (by omega) (T.out.on (qa.trans h.2.2.2.2))).mono ?_
  rintro e w' ⟨rfl,q'⟩
  exact⟨rfl,KS.out _ (Q.trans h.2.2.2.2 q')⟩)
 have SN:Hid ((XRS w x) (w.alloc (.cells #[.int .u64 (x.id:Nat),.string x.data,.bool x.mark,.int .i64 x.tm] 49)).drew):=AC (KS.out _ (Q.refl _).drew)
 clear hR
 have hsd:decide (s<0)=true:=decide_eq_true hs
 rw [ver]
 go_enter Tryz.func82,Tryz.ntmps82
 go_wp2_with fail
 refine wp_region_held_drew (S:=(XRS w x)) (by kernel_rfl) SN.out (fun hHeld=>?_)
 refine tkV 0 ?_
 refine aR [1] ?_
 refine aC rfl (fun K hK=>?_) aN
 go_simp
 go_at_call 102
 refine(CK.out _ (by assumption)).mono ?_
 rintro e w' ⟨rfl,hS⟩
 refine hK.out _ _ hS (fun hHeld=>?_)
 clear hK K
 refine pg ?_
 refine tkB 2 (.bool false) ?_
 refine tkB 3 (.bool false) ?_
 refine tkV 4 ?_
 refine tkB 5 (.bool true) ?_
 refine tkB 6 (.bool true) ?_
 refine tkB 7 (.bool true) ?_
 refine tkU 8 ?_
 refine tkU 9 ?_
 refine tkB 10 (.bool true) ?_
 refine tkB 11 (.bool true) ?_
 refine tkU 12 ?_
 refine tkU 13 ?_
 refine tkU 14 ?_
 refine tkB 15 (.bool true) ?_
 refine tkB 16 (.bool true) ?_
 refine tkU 17 ?_
 refine tkU 18 ?_
 refine tkU 19 ?_
 refine tkU 20 ?_
 refine tkU 21 ?_
 refine tkU 22 ?_
 refine tkU 23 ?_
 refine tkB 24 (.bool true) ?_
 refine tkB 25 (.bool true) ?_
 refine tkU 26 ?_
 refine tkU 27 ?_
 refine tkU 28 ?_
 refine tkU 29 ?_
 refine tkU 30 ?_
 refine tkU 31 ?_
 refine tkU 32 ?_
 refine tkU 33 ?_
 refine tkU 34 ?_
 refine tkU 35 ?_
 refine tkU 36 ?_
 refine tkU 37 ?_
 refine tkB 38 (.bool true) ?_
 refine wpAnyH_done (by kernel_rfl) ?_ _
 have q:=qa.trans hS.2.2.2.2
 clear KS CK SN hS
 go_wp2
 go_ret2
 exact⟨_,rfl,OwnV.nil _ _,q⟩
theorem L7(l:List Ver)(v:Value)(s:Int)(x:Ver)(w:World)(hR:okP l)(hs:2<s)(hl:l.length≤900)(hx:okV x)(ht:Vers w w.heap.size v l):
  Calls Tryz.prog 82 #[v,.int .i64 s,ver x] w fun e w'=>∃ v',e=.returned (.tuple #[v',.int .i64 1])∧OwnV w.heap.size w' v' []∧Q w w':=by
 have T:=AC ht
 have qa:Q w (w.alloc (.cells #[.int .u64 (x.id:Nat),.string x.data,.bool x.mark,.int .i64 x.tm] 49)):=(Q.refl w).alloc _
 obtain⟨A,cc,rfl⟩:=ht.shape
 clear ht
 have KS:Hid (∀ b,Q (w.alloc (.cells #[.int .u64 (x.id:Nat),.string x.data,.bool x.mark,.int .i64 x.tm] 49)) b→(XRS w x) b):=AC (by
  intro b q
  obtain⟨b0,b1,b2,b3⟩:=Aa q
  exact⟨b0,b1,b2,b3,q⟩)
 have CK:Hid (∀ b,(XRS w x) b→Calls Tryz.prog 102 #[.slice A l.length cc] b fun e w'=>e=.returned (.bool true)∧(XRS w x) w'):=AC (by
  intro b h
  refine(AR l _ b true (.inl ⟨rfl,hR⟩) (by omega) (T.out.on (qa.trans h.2.2.2.2))).mono ?_
  rintro e w' ⟨rfl,q'⟩
  exact⟨rfl,KS.out _ (Q.trans h.2.2.2.2 q')⟩)
 have SN:Hid ((XRS w x) (w.alloc (.cells #[.int .u64 (x.id:Nat),.string x.data,.bool x.mark,.int .i64 x.tm] 49)).drew):=AC (KS.out _ (Q.refl _).drew)
 clear hR
 have hs0:¬ s<0:=by omega
 rw [ver]
 go_enter Tryz.func82,Tryz.ntmps82
 go_wp2_with fail
 refine wp_region_held_drew (S:=(XRS w x)) (by kernel_rfl) SN.out (fun hHeld=>?_)
 refine tkV 0 ?_
 refine aR [1] ?_
 refine aC rfl (fun K hK=>?_) aN
 go_simp
 go_at_call 102
 refine(CK.out _ (by assumption)).mono ?_
 rintro e w' ⟨rfl,hS⟩
 refine hK.out _ _ hS (fun hHeld=>?_)
 clear hK K
 refine pg ?_
 refine tkB 2 (.bool false) ?_
 refine tkB 3 (.bool false) ?_
 refine tkV 4 ?_
 refine tkB 5 (.bool false) ?_
 refine tkB 6 (.bool false) ?_
 refine tkB 7 (.bool false) ?_
 refine tkV 8 ?_
 refine tkB 9 (.bool true) ?_
 refine tkB 10 (.bool true) ?_
 refine tkB 11 (.bool true) ?_
 refine tkU 12 ?_
 refine tkU 13 ?_
 refine tkU 14 ?_
 refine tkB 15 (.bool true) ?_
 refine tkB 16 (.bool true) ?_
 refine tkU 17 ?_
 refine tkU 18 ?_
 refine tkU 19 ?_
 refine tkU 20 ?_
 refine tkU 21 ?_
 refine tkU 22 ?_
 refine tkU 23 ?_
 refine tkB 24 (.bool true) ?_
 refine tkB 25 (.bool true) ?_
 refine tkU 26 ?_
 refine tkU 27 ?_
 refine tkU 28 ?_
 refine tkU 29 ?_
 refine tkU 30 ?_
 refine tkU 31 ?_
 refine tkU 32 ?_
 refine tkU 33 ?_
 refine tkU 34 ?_
 refine tkU 35 ?_
 refine tkU 36 ?_
 refine tkU 37 ?_
 refine tkB 38 (.bool true) ?_
 refine wpAnyH_done (by kernel_rfl) ?_ _
 have q:=qa.trans hS.2.2.2.2
 clear KS CK SN hS
 go_wp2
 go_ret2
 exact⟨_,rfl,OwnV.nil _ _,q⟩
theorem Oo(l:List Ver)(v:Value)(s:Int)(x:Ver)(w:World)(hR:okP l)(h0:0≤s)(h2:s≤2)(hm:B9 x=false)(hl:l.length≤900)(hx:okV x)(ht:Vers w w.heap.size v l):
  Calls Tryz.prog 82 #[v,.int .i64 s,ver x] w fun e w'=>∃ v',e=.returned (.tuple #[v',.int .i64 1])∧OwnV w.heap.size w' v' []∧Q w w':=by
 have T:=AC ht
 have qa:Q w (w.alloc (.cells #[.int .u64 (x.id:Nat),.string x.data,.bool x.mark,.int .i64 x.tm] 49)):=(Q.refl w).alloc _
 obtain⟨A,cc,rfl⟩:=ht.shape
 clear ht
 have KS:Hid (∀ b,Q (w.alloc (.cells #[.int .u64 (x.id:Nat),.string x.data,.bool x.mark,.int .i64 x.tm] 49)) b→(XRS w x) b):=AC (by
  intro b q
  obtain⟨b0,b1,b2,b3⟩:=Aa q
  exact⟨b0,b1,b2,b3,q⟩)
 have CK:Hid (∀ b,(XRS w x) b→Calls Tryz.prog 102 #[.slice A l.length cc] b fun e w'=>e=.returned (.bool true)∧(XRS w x) w'):=AC (by
  intro b h
  refine(AR l _ b true (.inl ⟨rfl,hR⟩) (by omega) (T.out.on (qa.trans h.2.2.2.2))).mono ?_
  rintro e w' ⟨rfl,q'⟩
  exact⟨rfl,KS.out _ (Q.trans h.2.2.2.2 q')⟩)
 have MA:Hid (∀ b,(XRS w x) b→Calls Tryz.prog 126 #[.agg #[.int .u64 (x.id:Nat),.string x.data,.bool x.mark,.int .i64 x.tm]] b fun e w'=>e=.returned (.bool false)∧(XRS w x) w'):=AC (by
  intro b h
  have M:=BF x b
  rw [hm,ver] at M
  refine M.mono ?_
  rintro e w' ⟨rfl,q'⟩
  exact⟨rfl,KS.out _ (Q.trans h.2.2.2.2 q')⟩)
 have SN:Hid ((XRS w x) (w.alloc (.cells #[.int .u64 (x.id:Nat),.string x.data,.bool x.mark,.int .i64 x.tm] 49)).drew):=AC (KS.out _ (Q.refl _).drew)
 clear hR hm
 have hs0:¬ s<0:=by omega
 have hs2:¬ 2<s:=by omega
 rw [ver]
 go_enter Tryz.func82,Tryz.ntmps82
 go_wp2_with fail
 refine wp_region_held_drew (S:=(XRS w x)) (by kernel_rfl) SN.out (fun hHeld=>?_)
 refine tkV 0 ?_
 refine aR [1] ?_
 refine aC rfl (fun K hK=>?_) aN
 go_simp
 go_at_call 102
 refine(CK.out _ (by assumption)).mono ?_
 rintro e w' ⟨rfl,hS⟩
 refine hK.out _ _ hS (fun hHeld=>?_)
 clear hK K
 refine pg ?_
 refine tkB 2 (.bool false) ?_
 refine tkB 3 (.bool false) ?_
 refine tkV 4 ?_
 refine tkB 5 (.bool false) ?_
 refine tkB 6 (.bool false) ?_
 refine tkB 7 (.bool false) ?_
 refine tkV 8 ?_
 refine tkB 9 (.bool false) ?_
 refine tkB 10 (.bool false) ?_
 refine tkB 11 (.bool false) ?_
 refine tkV 12 ?_
 refine aR [13] ?_
 refine aC rfl (fun K hK=>?_) aN
 go_simp
 go_at_call 126
 refine(MA.out _ (by assumption)).mono ?_
 rintro e w' ⟨rfl,hS⟩
 refine hK.out _ _ hS (fun hHeld=>?_)
 clear hK K
 refine pg ?_
 refine tkB 14 (.bool true) ?_
 refine tkB 15 (.bool true) ?_
 refine tkB 16 (.bool true) ?_
 refine tkU 17 ?_
 refine tkU 18 ?_
 refine tkU 19 ?_
 refine tkU 20 ?_
 refine tkU 21 ?_
 refine tkU 22 ?_
 refine tkU 23 ?_
 refine tkB 24 (.bool true) ?_
 refine tkB 25 (.bool true) ?_
 refine tkU 26 ?_
 refine tkU 27 ?_
 refine tkU 28 ?_
 refine tkU 29 ?_
 refine tkU 30 ?_
 refine tkU 31 ?_
 refine tkU 32 ?_
 refine tkU 33 ?_
 refine tkU 34 ?_
 refine tkU 35 ?_
 refine tkU 36 ?_
 refine tkU 37 ?_
 refine tkB 38 (.bool true) ?_
 refine wpAnyH_done (by kernel_rfl) ?_ _
 have q:=qa.trans hS.2.2.2.2
 clear KS CK SN hS
 go_wp2
 go_ret2
 exact⟨_,rfl,OwnV.nil _ _,q⟩
theorem L6(l:List Ver)(v:Value)(s:Int)(x:Ver)(w:World)(hR:okP l)(hs:s=1)(hm:B9 x=true)(h1:x.id=0)(hl:l.length≤900)(hx:okV x)(ht:Vers w w.heap.size v l):
  Calls Tryz.prog 82 #[v,.int .i64 s,ver x] w fun e w'=>∃ v',e=.returned (.tuple #[v',.int .i64 1])∧OwnV w.heap.size w' v' []∧Q w w':=by
 have T:=AC ht
 have qa:Q w (w.alloc (.cells #[.int .u64 (x.id:Nat),.string x.data,.bool x.mark,.int .i64 x.tm] 49)):=(Q.refl w).alloc _
 obtain⟨A,cc,rfl⟩:=ht.shape
 clear ht
 have KS:Hid (∀ b,Q (w.alloc (.cells #[.int .u64 (x.id:Nat),.string x.data,.bool x.mark,.int .i64 x.tm] 49)) b→(XRS w x) b):=AC (by
  intro b q
  obtain⟨b0,b1,b2,b3⟩:=Aa q
  exact⟨b0,b1,b2,b3,q⟩)
 have CK:Hid (∀ b,(XRS w x) b→Calls Tryz.prog 102 #[.slice A l.length cc] b fun e w'=>e=.returned (.bool true)∧(XRS w x) w'):=AC (by
  intro b h
  refine(AR l _ b true (.inl ⟨rfl,hR⟩) (by omega) (T.out.on (qa.trans h.2.2.2.2))).mono ?_
  rintro e w' ⟨rfl,q'⟩
  exact⟨rfl,KS.out _ (Q.trans h.2.2.2.2 q')⟩)
 have MA:Hid (∀ b,(XRS w x) b→Calls Tryz.prog 126 #[.agg #[.int .u64 (x.id:Nat),.string x.data,.bool x.mark,.int .i64 x.tm]] b fun e w'=>e=.returned (.bool true)∧(XRS w x) w'):=AC (by
  intro b h
  have M:=BF x b
  rw [hm,ver] at M
  refine M.mono ?_
  rintro e w' ⟨rfl,q'⟩
  exact⟨rfl,KS.out _ (Q.trans h.2.2.2.2 q')⟩)
 have SN:Hid ((XRS w x) (w.alloc (.cells #[.int .u64 (x.id:Nat),.string x.data,.bool x.mark,.int .i64 x.tm] 49)).drew):=AC (KS.out _ (Q.refl _).drew)
 subst hs
 have h1b:((x.id:Int)==0)=true:=by simp [h1]
 clear hR hm h1
 rw [ver]
 go_enter Tryz.func82,Tryz.ntmps82
 go_wp2_with fail
 refine wp_region_held_drew (S:=(XRS w x)) (by kernel_rfl) SN.out (fun hHeld=>?_)
 refine tkV 0 ?_
 refine aR [1] ?_
 refine aC rfl (fun K hK=>?_) aN
 go_simp
 go_at_call 102
 refine(CK.out _ (by assumption)).mono ?_
 rintro e w' ⟨rfl,hS⟩
 refine hK.out _ _ hS (fun hHeld=>?_)
 clear hK K
 refine pg ?_
 refine tkB 2 (.bool false) ?_
 refine tkB 3 (.bool false) ?_
 refine tkV 4 ?_
 refine tkB 5 (.bool false) ?_
 refine tkB 6 (.bool false) ?_
 refine tkB 7 (.bool false) ?_
 refine tkV 8 ?_
 refine tkB 9 (.bool false) ?_
 refine tkB 10 (.bool false) ?_
 refine tkB 11 (.bool false) ?_
 refine tkV 12 ?_
 refine aR [13] ?_
 refine aC rfl (fun K hK=>?_) aN
 go_simp
 go_at_call 126
 refine(MA.out _ (by assumption)).mono ?_
 rintro e w' ⟨rfl,hS⟩
 refine hK.out _ _ hS (fun hHeld=>?_)
 clear hK K
 refine pg ?_
 refine tkB 14 (.bool false) ?_
 refine tkB 15 (.bool false) ?_
 refine tkB 16 (.bool false) ?_
 refine tkV 17 ?_
 refine tkB 18 (.bool true) ?_
 refine tkB 19 (.bool true) ?_
 refine tkV 20 ?_
 refine tkV 21 ?_
 refine tkB 22 (.bool true) ?_
 refine tkB 23 (.bool true) ?_
 refine tkB 24 (.bool true) ?_
 refine tkB 25 (.bool true) ?_
 refine tkU 26 ?_
 refine tkU 27 ?_
 refine tkU 28 ?_
 refine tkU 29 ?_
 refine tkU 30 ?_
 refine tkU 31 ?_
 refine tkU 32 ?_
 refine tkU 33 ?_
 refine tkU 34 ?_
 refine tkU 35 ?_
 refine tkU 36 ?_
 refine tkU 37 ?_
 refine tkB 38 (.bool true) ?_
 refine wpAnyH_done (by kernel_rfl) ?_ _
 have q:=qa.trans hS.2.2.2.2
 clear KS CK SN hS
 go_wp2
 go_ret2
 exact⟨_,rfl,OwnV.nil _ _,q⟩
theorem KL(l:List Ver)(v:Value)(s:Int)(x:Ver)(w:World)(hR:okP l)(hs:s=1)(h1:x.id≠0)(hm:B9 x=true)(h0:0<l.length)(htm:x.tm<l[0].tm)(hl:l.length≤900)(hx:okV x)(ht:Vers w w.heap.size v l):
  Calls Tryz.prog 82 #[v,.int .i64 s,ver x] w fun e w'=>∃ v',e=.returned (.tuple #[v',.int .i64 1])∧OwnV w.heap.size w' v' []∧Q w w':=by
 have T:=AC ht
 have qa:Q w (w.alloc (.cells #[.int .u64 (x.id:Nat),.string x.data,.bool x.mark,.int .i64 x.tm] 49)):=(Q.refl w).alloc _
 obtain⟨A,cc,rfl,-,-,-,hcs⟩:=ht
 obtain⟨a,rfl,ha,hat⟩:=hcs 0 h0
 rw [Nat.zero_mul,show a.add 0=a by cases a;simp [Addr.add]] at hat
 obtain⟨y,hy⟩:∃ y,y=l[0].tm:=⟨_,rfl⟩
 have HA:Hid (∀ b,Q w b→b.cell? ⟨a.block,a.off+3,none⟩=some (.int .i64 y)):=AC (fun b q=>by rw [hy];exact(hat.keep ha fun _ hp=>q.cell hp).2.2.2)
 have hlp:(0:Int)<(l.length:Int):=by omega
 rw [← hy] at htm
 clear hcs hat hy
 have KS:Hid (∀ b,Q (w.alloc (.cells #[.int .u64 (x.id:Nat),.string x.data,.bool x.mark,.int .i64 x.tm] 49)) b→(XRT w x a y) b):=AC (by
  intro b q
  obtain⟨b0,b1,b2,b3⟩:=Aa q
  exact⟨b0,b1,b2,b3,HA.out b (qa.trans q),q⟩)
 have CK:Hid (∀ b,(XRT w x a y) b→Calls Tryz.prog 102 #[.slice (some a) l.length cc] b fun e w'=>e=.returned (.bool true)∧(XRT w x a y) w'):=AC (by
  intro b h
  refine(AR l _ b true (.inl ⟨rfl,hR⟩) (by omega) (T.out.on (qa.trans h.2.2.2.2.2))).mono ?_
  rintro e w' ⟨rfl,q'⟩
  exact⟨rfl,KS.out _ (Q.trans h.2.2.2.2.2 q')⟩)
 have MA:Hid (∀ b,(XRT w x a y) b→Calls Tryz.prog 126 #[.agg #[.int .u64 (x.id:Nat),.string x.data,.bool x.mark,.int .i64 x.tm]] b fun e w'=>e=.returned (.bool true)∧(XRT w x a y) w'):=AC (by
  intro b h
  have M:=BF x b
  rw [hm,ver] at M
  refine M.mono ?_
  rintro e w' ⟨rfl,q'⟩
  exact⟨rfl,KS.out _ (Q.trans h.2.2.2.2.2 q')⟩)
 have SN:Hid ((XRT w x a y) (w.alloc (.cells #[.int .u64 (x.id:Nat),.string x.data,.bool x.mark,.int .i64 x.tm] 49)).drew):=AC (KS.out _ (Q.refl _).drew)
 subst hs
 have h1':¬ (x.id:Int)=0:=by omega
 have h1b:((x.id:Int)==0)=false:=by simpa using h1'
 clear hR hm h1
 rw [ver]
 go_enter Tryz.func82,Tryz.ntmps82
 go_wp2_with fail
 refine wp_region_held_drew (S:=(XRT w x a y)) (by kernel_rfl) SN.out (fun hHeld=>?_)
 refine tkV 0 ?_
 refine aR [1] ?_
 refine aC rfl (fun K hK=>?_) aN
 go_simp
 go_at_call 102
 refine(CK.out _ (by assumption)).mono ?_
 rintro e w' ⟨rfl,hS⟩
 refine hK.out _ _ hS (fun hHeld=>?_)
 clear hK K
 refine pg ?_
 refine tkB 2 (.bool false) ?_
 refine tkB 3 (.bool false) ?_
 refine tkV 4 ?_
 refine tkB 5 (.bool false) ?_
 refine tkB 6 (.bool false) ?_
 refine tkB 7 (.bool false) ?_
 refine tkV 8 ?_
 refine tkB 9 (.bool false) ?_
 refine tkB 10 (.bool false) ?_
 refine tkB 11 (.bool false) ?_
 refine tkV 12 ?_
 refine aR [13] ?_
 refine aC rfl (fun K hK=>?_) aN
 go_simp
 go_at_call 126
 refine(MA.out _ (by assumption)).mono ?_
 rintro e w' ⟨rfl,hS⟩
 refine hK.out _ _ hS (fun hHeld=>?_)
 clear hK K
 refine pg ?_
 refine tkB 14 (.bool false) ?_
 refine tkB 15 (.bool false) ?_
 refine tkB 16 (.bool false) ?_
 refine tkV 17 ?_
 refine tkB 18 (.bool true) ?_
 refine tkB 19 (.bool true) ?_
 refine tkV 20 ?_
 refine tkV 21 ?_
 refine tkB 22 (.bool false) ?_
 refine tkB 23 (.bool false) ?_
 refine tkB 24 (.bool false) ?_
 refine tkB 25 (.bool false) ?_
 refine tkV 26 ?_
 refine tkV 27 ?_
 refine tkB 28 (.bool true) ?_
 refine tkB 29 (.bool true) ?_
 refine tkV 30 ?_
 refine tkV 31 ?_
 refine tkV 32 ?_
 refine tkV 33 ?_
 refine tkV 34 ?_
 refine tkV 35 ?_
 refine tkB 36 (.bool true) ?_
 refine tkB 37 (.bool true) ?_
 refine tkB 38 (.bool true) ?_
 refine wpAnyH_done (by kernel_rfl) ?_ _
 have q:=qa.trans hS.2.2.2.2.2
 clear KS CK SN hS
 go_wp2
 go_ret2
 exact⟨_,rfl,OwnV.nil _ _,q⟩
theorem KM(l:List Ver)(v:Value)(s:Int)(x:Ver)(w:World)(hR:okP l)(hs:s=0∨s=2)(hm:B9 x=true)(h0:0<l.length)(htm:x.tm<l[0].tm)(hl:l.length≤900)(hx:okV x)(ht:Vers w w.heap.size v l):
  Calls Tryz.prog 82 #[v,.int .i64 s,ver x] w fun e w'=>∃ v',e=.returned (.tuple #[v',.int .i64 1])∧OwnV w.heap.size w' v' []∧Q w w':=by
 have T:=AC ht
 have qa:Q w (w.alloc (.cells #[.int .u64 (x.id:Nat),.string x.data,.bool x.mark,.int .i64 x.tm] 49)):=(Q.refl w).alloc _
 obtain⟨A,cc,rfl,-,-,-,hcs⟩:=ht
 obtain⟨a,rfl,ha,hat⟩:=hcs 0 h0
 rw [Nat.zero_mul,show a.add 0=a by cases a;simp [Addr.add]] at hat
 obtain⟨y,hy⟩:∃ y,y=l[0].tm:=⟨_,rfl⟩
 have HA:Hid (∀ b,Q w b→b.cell? ⟨a.block,a.off+3,none⟩=some (.int .i64 y)):=AC (fun b q=>by rw [hy];exact(hat.keep ha fun _ hp=>q.cell hp).2.2.2)
 have hlp:(0:Int)<(l.length:Int):=by omega
 rw [← hy] at htm
 clear hcs hat hy
 have KS:Hid (∀ b,Q (w.alloc (.cells #[.int .u64 (x.id:Nat),.string x.data,.bool x.mark,.int .i64 x.tm] 49)) b→(XRT w x a y) b):=AC (by
  intro b q
  obtain⟨b0,b1,b2,b3⟩:=Aa q
  exact⟨b0,b1,b2,b3,HA.out b (qa.trans q),q⟩)
 have CK:Hid (∀ b,(XRT w x a y) b→Calls Tryz.prog 102 #[.slice (some a) l.length cc] b fun e w'=>e=.returned (.bool true)∧(XRT w x a y) w'):=AC (by
  intro b h
  refine(AR l _ b true (.inl ⟨rfl,hR⟩) (by omega) (T.out.on (qa.trans h.2.2.2.2.2))).mono ?_
  rintro e w' ⟨rfl,q'⟩
  exact⟨rfl,KS.out _ (Q.trans h.2.2.2.2.2 q')⟩)
 have MA:Hid (∀ b,(XRT w x a y) b→Calls Tryz.prog 126 #[.agg #[.int .u64 (x.id:Nat),.string x.data,.bool x.mark,.int .i64 x.tm]] b fun e w'=>e=.returned (.bool true)∧(XRT w x a y) w'):=AC (by
  intro b h
  have M:=BF x b
  rw [hm,ver] at M
  refine M.mono ?_
  rintro e w' ⟨rfl,q'⟩
  exact⟨rfl,KS.out _ (Q.trans h.2.2.2.2.2 q')⟩)
 have SN:Hid ((XRT w x a y) (w.alloc (.cells #[.int .u64 (x.id:Nat),.string x.data,.bool x.mark,.int .i64 x.tm] 49)).drew):=AC (KS.out _ (Q.refl _).drew)
 have hs0:¬ s<0:=by omega
 have hs2:¬ 2<s:=by omega
 have hs1:¬ s=1:=by omega
 have hs1b:(s==1)=false:=by simpa using hs1
 clear hR hm hs
 rw [ver]
 go_enter Tryz.func82,Tryz.ntmps82
 go_wp2_with fail
 refine wp_region_held_drew (S:=(XRT w x a y)) (by kernel_rfl) SN.out (fun hHeld=>?_)
 refine tkV 0 ?_
 refine aR [1] ?_
 refine aC rfl (fun K hK=>?_) aN
 go_simp
 go_at_call 102
 refine(CK.out _ (by assumption)).mono ?_
 rintro e w' ⟨rfl,hS⟩
 refine hK.out _ _ hS (fun hHeld=>?_)
 clear hK K
 refine pg ?_
 refine tkB 2 (.bool false) ?_
 refine tkB 3 (.bool false) ?_
 refine tkV 4 ?_
 refine tkB 5 (.bool false) ?_
 refine tkB 6 (.bool false) ?_
 refine tkB 7 (.bool false) ?_
 refine tkV 8 ?_
 refine tkB 9 (.bool false) ?_
 refine tkB 10 (.bool false) ?_
 refine tkB 11 (.bool false) ?_
 refine tkV 12 ?_
 refine aR [13] ?_
 refine aC rfl (fun K hK=>?_) aN
 go_simp
 go_at_call 126
 refine(MA.out _ (by assumption)).mono ?_
 rintro e w' ⟨rfl,hS⟩
 refine hK.out _ _ hS (fun hHeld=>?_)
 clear hK K
 refine pg ?_
 refine tkB 14 (.bool false) ?_
 refine tkB 15 (.bool false) ?_
 refine tkB 16 (.bool false) ?_
 refine tkV 17 ?_
 refine tkB 18 (.bool false) ?_
 refine tkB 19 (.bool false) ?_
 refine tkU 20 ?_
 refine tkU 21 ?_
 refine tkU 22 ?_
 refine tkB 23 (.bool false) ?_
 refine tkB 24 (.bool false) ?_
 refine tkB 25 (.bool false) ?_
 refine tkV 26 ?_
 refine tkV 27 ?_
 refine tkB 28 (.bool true) ?_
 refine tkB 29 (.bool true) ?_
 refine tkV 30 ?_
 refine tkV 31 ?_
 refine tkV 32 ?_
 refine tkV 33 ?_
 refine tkV 34 ?_
 refine tkV 35 ?_
 refine tkB 36 (.bool true) ?_
 refine tkB 37 (.bool true) ?_
 refine tkB 38 (.bool true) ?_
 refine wpAnyH_done (by kernel_rfl) ?_ _
 have q:=qa.trans hS.2.2.2.2.2
 clear KS CK SN hS
 go_wp2
 go_ret2
 exact⟨_,rfl,OwnV.nil _ _,q⟩
end
end Go.Proofs.YtjjlbbfhmpbneaaGreat
