/-
  Contract of the document's Put, where it goes. Contract of the document's Put, where it goes.
-/
import Derived.Test.YtjjlbbfhmpbneaaGreatLga
namespace Go.Proofs.YtjjlbbfhmpbneaaGreat
open AllReadyH renaming cons → aC, nil → aN
open Lib renaming hid → AC
set_option maxHeartbeats 16000000
set_option maxRecDepth 100000
set_option linter.unusedVariables false
set_option linter.unusedSimpArgs false
section
open Go.ChangeShapes Go.WideShapes Go.ChangeAt Go.RowKit
theorem Qp{l:List Ver}{n:Nat}(h:l.any (fun y=>decide (n≤y.id))=false)(i:Nat)(hi:i<l.length):¬ n≤l[i].id:=by
 intro k
 rw [List.any_eq_false] at h
 exact h _ (List.getElem_mem hi) (by simpa using k)
theorem Sg{l:List Ver}{n:Nat}(h:∀ j (hl:j<l.length),¬ n≤l[j].id):l.any (fun y=>decide (n≤y.id))=false:=by
 rw [List.any_eq_false]
 intro x hx
 obtain⟨j,hj,rfl⟩:=List.getElem_of_mem hx
 simpa using h j hj
theorem GO(base:Nat)(w:World)(x:Ver)(hb:base≤w.heap.size):OwnV base (w.alloc (.cells #[.int .u64 (x.id:Nat),.string x.data,.bool x.mark,.int .i64 x.tm] 49)) (.slice (some ⟨w.heap.size,0,none⟩) 1 1) [x]:=
 ⟨rfl,.inr ⟨w.heap.size,1,_,rfl,hb,heap_alloc_new w _,Nat.le_refl _,by unfold maxLen;omega,rfl,rfl⟩⟩
theorem Gl{w w1:World}{i:Int}{d:ByteArray}{m:Bool}{t:Int}(q:Q (w.alloc (.cells #[.int .u64 i,.string d,.bool m,.int .i64 t] 49)) w1):
  w1.frozen? ⟨w.heap.size,0,none⟩=false∧w1.frozen? ⟨w.heap.size,1,none⟩=false∧w1.frozen? ⟨w.heap.size,2,none⟩=false∧w1.frozen? ⟨w.heap.size,3,none⟩=false:=by
 have f:∀ k,w1.frozen? ⟨w.heap.size,k,none⟩=(w.alloc (.cells #[.int .u64 i,.string d,.bool m,.int .i64 t] 49)).frozen? ⟨w.heap.size,k,none⟩:=fun k=>Below.frozen q (p:=⟨w.heap.size,k,none⟩) (by simp)
 refine⟨(f 0).trans ?_,(f 1).trans ?_,(f 2).trans ?_,(f 3).trans ?_⟩ <;> simp [go_sem]
theorem Dv{w w1:World}{i:Int}{d:ByteArray}{m:Bool}{t:Int}(q:Q (w.alloc (.cells #[.int .u64 i,.string d,.bool m,.int .i64 t] 49)) w1):
  ∀ w2,Q (w1.setCell ⟨w.heap.size,0,none⟩ (.int .u64 0)) w2→w2.cell? ⟨w.heap.size,0,none⟩=some (.int .u64 0)∧w2.cell? ⟨w.heap.size,1,none⟩=some (.string d)∧w2.cell? ⟨w.heap.size,2,none⟩=some (.bool m)∧w2.cell? ⟨w.heap.size,3,none⟩=some (.int .i64 t):=by
 intro w2 q2
 obtain⟨b0,b1,b2,b3⟩:=Aa q
 have hlt:w.heap.size<(w1.setCell ⟨w.heap.size,0,none⟩ (.int .u64 0)).heap.size:=by
  have:=q.size
  rw [World.size_alloc] at this
  simp;omega
 have c:∀ k,w2.cell? ⟨w.heap.size,k,none⟩=(w1.setCell ⟨w.heap.size,0,none⟩ (.int .u64 0)).cell? ⟨w.heap.size,k,none⟩:=fun k=>Below.cell q2 (p:=⟨w.heap.size,k,none⟩) hlt
 refine⟨(c 0).trans ?_,(c 1).trans ?_,(c 2).trans ?_,(c 3).trans ?_⟩ <;> simp [go_sem,b0,b1,b2,b3]
theorem D5(l:List Ver)(v:Value)(s:Int)(x:Ver)(w:World)(hR:okP l)(hs:s=1)(h1:x.id≠0)(hm:B9 x=true)(h0:0<l.length)(htm:l[0].tm≤x.tm)(hany:l.any (fun y=>decide (x.id≤y.id))=true)(hl:l.length≤900)(hx:okV x)(ht:Vers w w.heap.size v l):
  Calls Tryz.prog 82 #[v,.int .i64 s,ver x] w fun e w'=>∃ v',e=.returned (.tuple #[v',.int .i64 9])∧OwnV w.heap.size w' v' []∧Q w w':=by
 have HC:Hid (∀ k (h:k<l.length),∃ a,(match v with | .slice A _ _=>A | _=>none)=some a∧a.block<w.heap.size∧At w (a.add (k*4)) l[k]):=AC (by
  obtain⟨A,c,rfl,-,-,-,f⟩:=ht
  exact f)
 have T:=AC ht
 have qa:Q w (w.alloc (.cells #[.int .u64 (x.id:Nat),.string x.data,.bool x.mark,.int .i64 x.tm] 49)):=(Q.refl w).alloc _
 obtain⟨A,cc,rfl,-,-,-,hcs⟩:=ht
 obtain⟨a,rfl,ha,hat⟩:=hcs 0 h0
 rw [Nat.zero_mul,show a.add 0=a by cases a;simp [Addr.add]] at hat
 obtain⟨y,hy⟩:∃ y,y=l[0].tm:=⟨_,rfl⟩
 have HA:Hid (∀ b,Q w b→b.cell? ⟨a.block,a.off+3,none⟩=some (.int .i64 y)):=AC (fun b q=>by rw [hy];exact(hat.keep ha fun _ hp=>q.cell hp).2.2.2)
 have hlp:(0:Int)<(l.length:Int):=by omega
 rw [← hy] at htm
 clear hcs hat hy
 have KS:Hid (∀ b,Q (w.alloc (.cells #[.int .u64 (x.id:Nat),.string x.data,.bool x.mark,.int .i64 x.tm] 49)) b→(XRT w x a y) b):=AC (by
  intro b q
  obtain⟨b0,b1,b2,b3⟩:=Aa q
  exact⟨b0,b1,b2,b3,HA.out b (qa.trans q),q⟩)
 have CK:Hid (∀ b,(XRT w x a y) b→Calls Tryz.prog 102 #[.slice (some a) l.length cc] b fun e w'=>e=.returned (.bool true)∧(XRT w x a y) w'):=AC (by
  intro b h
  refine(AR l _ b true (.inl ⟨rfl,hR⟩) (by omega) (T.out.on (qa.trans h.2.2.2.2.2))).mono ?_
  rintro e w' ⟨rfl,q'⟩
  exact⟨rfl,KS.out _ (Q.trans h.2.2.2.2.2 q')⟩)
 have MA:Hid (∀ b,(XRT w x a y) b→Calls Tryz.prog 126 #[.agg #[.int .u64 (x.id:Nat),.string x.data,.bool x.mark,.int .i64 x.tm]] b fun e w'=>e=.returned (.bool true)∧(XRT w x a y) w'):=AC (by
  intro b h
  have M:=BF x b
  rw [hm,ver] at M
  refine M.mono ?_
  rintro e w' ⟨rfl,q'⟩
  exact⟨rfl,KS.out _ (Q.trans h.2.2.2.2.2 q')⟩)
 have SN:Hid ((XRT w x a y) (w.alloc (.cells #[.int .u64 (x.id:Nat),.string x.data,.bool x.mark,.int .i64 x.tm] 49)).drew):=AC (KS.out _ (Q.refl _).drew)
 subst hs
 have h1':¬ (x.id:Int)=0:=by omega
 have h1b:((x.id:Int)==0)=false:=by simpa using h1'
 have htm':¬ x.tm<y:=by omega
 clear hR hm
 (try simp only at HC)
 rw [ver]
 go_enter Tryz.func82,Tryz.ntmps82
 go_wp2_with fail
 refine wp_region_held_drew (S:=(XRT w x a y)) (by kernel_rfl) SN.out (fun hHeld=>?_)
 refine tkV 0 ?_
 refine aR [1] ?_
 refine aC rfl (fun K hK=>?_) aN
 go_simp
 go_at_call 102
 refine(CK.out _ (by assumption)).mono ?_
 rintro e w' ⟨rfl,hS⟩
 refine hK.out _ _ hS (fun hHeld=>?_)
 clear hK K
 refine pg ?_
 refine tkB 2 (.bool false) ?_
 refine tkB 3 (.bool false) ?_
 refine tkV 4 ?_
 refine tkB 5 (.bool false) ?_
 refine tkB 6 (.bool false) ?_
 refine tkB 7 (.bool false) ?_
 refine tkV 8 ?_
 refine tkB 9 (.bool false) ?_
 refine tkB 10 (.bool false) ?_
 refine tkB 11 (.bool false) ?_
 refine tkV 12 ?_
 refine aR [13] ?_
 refine aC rfl (fun K hK=>?_) aN
 go_simp
 go_at_call 126
 refine(MA.out _ (by assumption)).mono ?_
 rintro e w' ⟨rfl,hS⟩
 refine hK.out _ _ hS (fun hHeld=>?_)
 clear hK K
 refine pg ?_
 refine tkB 14 (.bool false) ?_
 refine tkB 15 (.bool false) ?_
 refine tkB 16 (.bool false) ?_
 refine tkV 17 ?_
 refine tkB 18 (.bool true) ?_
 refine tkB 19 (.bool true) ?_
 refine tkV 20 ?_
 refine tkV 21 ?_
 refine tkB 22 (.bool false) ?_
 refine tkB 23 (.bool false) ?_
 refine tkB 24 (.bool false) ?_
 refine tkB 25 (.bool false) ?_
 refine tkV 26 ?_
 refine tkV 27 ?_
 refine tkB 28 (.bool true) ?_
 refine tkB 29 (.bool true) ?_
 refine tkV 30 ?_
 refine tkV 31 ?_
 refine tkV 32 ?_
 refine tkV 33 ?_
 refine tkV 34 ?_
 refine tkV 35 ?_
 refine tkB 36 (.bool false) ?_
 refine tkB 37 (.bool false) ?_
 refine tkB 38 (.bool false) ?_
 refine wpAnyH_done (by kernel_rfl) ?_ _
 obtain⟨b0,b1,b2,b3,c3,q0⟩:=hS
 clear b0 b1 b2 b3 CK MA SN c3 HA
 go_wp2_with fail
 go_loopw [9] (fun I wr=>∃ i:Nat,i≤l.length∧I=.int .i64 i∧Q (w.alloc (.cells #[.int .u64 (x.id:Nat),.string x.data,.bool x.mark,.int .i64 x.tm] 49)) wr∧Hid (∀ j (hj:j<i) (hl:j<l.length),¬ x.id≤l[j].id)) (fun I _=>l.length - (intOf I).toNat)
 case atStart=>exact⟨0,Nat.zero_le _,rfl,q0,AC (fun j h=>by omega)⟩
 case round=>
  obtain⟨i,hil,rfl,qr,HK⟩:=hrel
  obtain⟨b0,b1,b2,b3,-⟩:=KS.out _ qr
  have qw:=qa.trans qr
  by_cases hlt:i<l.length
  ·obtain⟨a',ea,ha',hat'⟩:=HC.out i hlt
   obtain⟨c0,c1,c2,c3⟩:=hat'.keep (by rw [AG];exact ha') fun _ hp=>qw.cell hp
   cases ea
   clear hat'
   by_cases hge:x.id≤l[i].id
   ·obtain⟨z,hz⟩:∃ z,z=l[i]:=⟨_,rfl⟩
    rw [← hz] at c0 c1 c2 c3 hge
    have hge':(x.id:Int)≤(z.id:Int):=by omega
    clear hz hge
    go_wp2_with fail
    go_region
    go_wp2
    go_ret2
    exact⟨_,rfl,OwnV.nil _ _,qw.drew⟩
   ·have HK2:Hid (∀ j (hj:j<i+1) (hl:j<l.length),¬ x.id≤l[j].id):=AC (fun j hj hl=>by
     by_cases e:j=i
     ·subst e;exact hge
     ·exact HK.out j (by omega) hl)
    obtain⟨z,hz⟩:∃ z,z=l[i]:=⟨_,rfl⟩
    rw [← hz] at c0 c1 c2 c3 hge
    have hge':¬ (x.id:Int)≤(z.id:Int):=by omega
    clear hz hge
    go_wp2_with fail
    go_region
    go_wp2
    go_roundw
    case rel=>exact⟨i+1,by omega,by go_num,qr.drew,HK2⟩
    case measure=>simp [intOf];omega
  ·exact absurd hany (by rw [Sg (fun j hl=>HK.out j (by omega) hl)];simp)
theorem D6(l:List Ver)(v:Value)(s:Int)(x:Ver)(w:World)(hR:okP l)(hs:s=1)(h1:x.id≠0)(hm:B9 x=true)(h0:0<l.length)(htm:l[0].tm≤x.tm)(hany:l.any (fun y=>decide (x.id≤y.id))=false)(h20:20≤l.length)(hl:l.length≤900)(hx:okV x)(ht:Vers w w.heap.size v l):
  Calls Tryz.prog 82 #[v,.int .i64 s,ver x] w fun e w'=>∃ v',e=.returned (.tuple #[v',.int .i64 6])∧OwnV w.heap.size w' v' []∧Q w w':=by
 have HC:Hid (∀ k (h:k<l.length),∃ a,(match v with | .slice A _ _=>A | _=>none)=some a∧a.block<w.heap.size∧At w (a.add (k*4)) l[k]):=AC (by
  obtain⟨A,c,rfl,-,-,-,f⟩:=ht
  exact f)
 have T:=AC ht
 have qa:Q w (w.alloc (.cells #[.int .u64 (x.id:Nat),.string x.data,.bool x.mark,.int .i64 x.tm] 49)):=(Q.refl w).alloc _
 obtain⟨A,cc,rfl,-,-,-,hcs⟩:=ht
 obtain⟨a,rfl,ha,hat⟩:=hcs 0 h0
 rw [Nat.zero_mul,show a.add 0=a by cases a;simp [Addr.add]] at hat
 obtain⟨y,hy⟩:∃ y,y=l[0].tm:=⟨_,rfl⟩
 have HA:Hid (∀ b,Q w b→b.cell? ⟨a.block,a.off+3,none⟩=some (.int .i64 y)):=AC (fun b q=>by rw [hy];exact(hat.keep ha fun _ hp=>q.cell hp).2.2.2)
 have hlp:(0:Int)<(l.length:Int):=by omega
 rw [← hy] at htm
 clear hcs hat hy
 have KS:Hid (∀ b,Q (w.alloc (.cells #[.int .u64 (x.id:Nat),.string x.data,.bool x.mark,.int .i64 x.tm] 49)) b→(XRT w x a y) b):=AC (by
  intro b q
  obtain⟨b0,b1,b2,b3⟩:=Aa q
  exact⟨b0,b1,b2,b3,HA.out b (qa.trans q),q⟩)
 have CK:Hid (∀ b,(XRT w x a y) b→Calls Tryz.prog 102 #[.slice (some a) l.length cc] b fun e w'=>e=.returned (.bool true)∧(XRT w x a y) w'):=AC (by
  intro b h
  refine(AR l _ b true (.inl ⟨rfl,hR⟩) (by omega) (T.out.on (qa.trans h.2.2.2.2.2))).mono ?_
  rintro e w' ⟨rfl,q'⟩
  exact⟨rfl,KS.out _ (Q.trans h.2.2.2.2.2 q')⟩)
 have MA:Hid (∀ b,(XRT w x a y) b→Calls Tryz.prog 126 #[.agg #[.int .u64 (x.id:Nat),.string x.data,.bool x.mark,.int .i64 x.tm]] b fun e w'=>e=.returned (.bool true)∧(XRT w x a y) w'):=AC (by
  intro b h
  have M:=BF x b
  rw [hm,ver] at M
  refine M.mono ?_
  rintro e w' ⟨rfl,q'⟩
  exact⟨rfl,KS.out _ (Q.trans h.2.2.2.2.2 q')⟩)
 have SN:Hid ((XRT w x a y) (w.alloc (.cells #[.int .u64 (x.id:Nat),.string x.data,.bool x.mark,.int .i64 x.tm] 49)).drew):=AC (KS.out _ (Q.refl _).drew)
 subst hs
 have h1':¬ (x.id:Int)=0:=by omega
 have h1b:((x.id:Int)==0)=false:=by simpa using h1'
 have htm':¬ x.tm<y:=by omega
 clear hR hm
 (try simp only at HC)
 rw [ver]
 go_enter Tryz.func82,Tryz.ntmps82
 go_wp2_with fail
 refine wp_region_held_drew (S:=(XRT w x a y)) (by kernel_rfl) SN.out (fun hHeld=>?_)
 refine tkV 0 ?_
 refine aR [1] ?_
 refine aC rfl (fun K hK=>?_) aN
 go_simp
 go_at_call 102
 refine(CK.out _ (by assumption)).mono ?_
 rintro e w' ⟨rfl,hS⟩
 refine hK.out _ _ hS (fun hHeld=>?_)
 clear hK K
 refine pg ?_
 refine tkB 2 (.bool false) ?_
 refine tkB 3 (.bool false) ?_
 refine tkV 4 ?_
 refine tkB 5 (.bool false) ?_
 refine tkB 6 (.bool false) ?_
 refine tkB 7 (.bool false) ?_
 refine tkV 8 ?_
 refine tkB 9 (.bool false) ?_
 refine tkB 10 (.bool false) ?_
 refine tkB 11 (.bool false) ?_
 refine tkV 12 ?_
 refine aR [13] ?_
 refine aC rfl (fun K hK=>?_) aN
 go_simp
 go_at_call 126
 refine(MA.out _ (by assumption)).mono ?_
 rintro e w' ⟨rfl,hS⟩
 refine hK.out _ _ hS (fun hHeld=>?_)
 clear hK K
 refine pg ?_
 refine tkB 14 (.bool false) ?_
 refine tkB 15 (.bool false) ?_
 refine tkB 16 (.bool false) ?_
 refine tkV 17 ?_
 refine tkB 18 (.bool true) ?_
 refine tkB 19 (.bool true) ?_
 refine tkV 20 ?_
 refine tkV 21 ?_
 refine tkB 22 (.bool false) ?_
 refine tkB 23 (.bool false) ?_
 refine tkB 24 (.bool false) ?_
 refine tkB 25 (.bool false) ?_
 refine tkV 26 ?_
 refine tkV 27 ?_
 refine tkB 28 (.bool true) ?_
 refine tkB 29 (.bool true) ?_
 refine tkV 30 ?_
 refine tkV 31 ?_
 refine tkV 32 ?_
 refine tkV 33 ?_
 refine tkV 34 ?_
 refine tkV 35 ?_
 refine tkB 36 (.bool false) ?_
 refine tkB 37 (.bool false) ?_
 refine tkB 38 (.bool false) ?_
 refine wpAnyH_done (by kernel_rfl) ?_ _
 obtain⟨b0,b1,b2,b3,c3,q0⟩:=hS
 clear b0 b1 b2 b3 CK MA SN c3 HA
 go_wp2_with fail
 go_loopw [9] (fun I wr=>∃ i:Nat,i≤l.length∧I=.int .i64 i∧Q (w.alloc (.cells #[.int .u64 (x.id:Nat),.string x.data,.bool x.mark,.int .i64 x.tm] 49)) wr∧Hid (∀ j (hj:j<i) (hl:j<l.length),¬ x.id≤l[j].id)) (fun I _=>l.length - (intOf I).toNat)
 case atStart=>exact⟨0,Nat.zero_le _,rfl,q0,AC (fun j h=>by omega)⟩
 case round=>
  obtain⟨i,hil,rfl,qr,HK⟩:=hrel
  obtain⟨b0,b1,b2,b3,-⟩:=KS.out _ qr
  have qw:=qa.trans qr
  by_cases hlt:i<l.length
  ·obtain⟨a',ea,ha',hat'⟩:=HC.out i hlt
   obtain⟨c0,c1,c2,c3⟩:=hat'.keep (by rw [AG];exact ha') fun _ hp=>qw.cell hp
   cases ea
   clear hat'
   by_cases hge:x.id≤l[i].id
   ·exact absurd hge (Qp hany i hlt)
   ·have HK2:Hid (∀ j (hj:j<i+1) (hl:j<l.length),¬ x.id≤l[j].id):=AC (fun j hj hl=>by
     by_cases e:j=i
     ·subst e;exact hge
     ·exact HK.out j (by omega) hl)
    obtain⟨z,hz⟩:∃ z,z=l[i]:=⟨_,rfl⟩
    rw [← hz] at c0 c1 c2 c3 hge
    have hge':¬ (x.id:Int)≤(z.id:Int):=by omega
    clear hz hge
    go_wp2_with fail
    go_region
    go_wp2
    go_roundw
    case rel=>exact⟨i+1,by omega,by go_num,qr.drew,HK2⟩
    case measure=>simp [intOf];omega
  ·have h20':(20:Int)≤(l.length:Int):=by omega
   go_wp2
   go_ret2
   exact⟨_,rfl,OwnV.nil _ _,qw⟩
theorem GL(l:List Ver)(v:Value)(s:Int)(x:Ver)(w:World)(hR:okP l)(hs:s=1)(h1:x.id≠0)(hm:B9 x=true)(h0:0<l.length)(htm:l[0].tm≤x.tm)(hany:l.any (fun y=>decide (x.id≤y.id))=false)(h20:l.length<20)(hl:l.length≤900)(hx:okV x)(ht:Vers w w.heap.size v l):
  Calls Tryz.prog 82 #[v,.int .i64 s,ver x] w fun e w'=>∃ v',e=.returned (.tuple #[v',.int .i64 0])∧OwnV w.heap.size w' v' (x :: l)∧Q w w':=by
 have HC:Hid (∀ k (h:k<l.length),∃ a,(match v with | .slice A _ _=>A | _=>none)=some a∧a.block<w.heap.size∧At w (a.add (k*4)) l[k]):=AC (by
  obtain⟨A,c,rfl,-,-,-,f⟩:=ht
  exact f)
 have T:=AC ht
 have qa:Q w (w.alloc (.cells #[.int .u64 (x.id:Nat),.string x.data,.bool x.mark,.int .i64 x.tm] 49)):=(Q.refl w).alloc _
 obtain⟨A,cc,rfl,-,-,-,hcs⟩:=ht
 obtain⟨a,rfl,ha,hat⟩:=hcs 0 h0
 rw [Nat.zero_mul,show a.add 0=a by cases a;simp [Addr.add]] at hat
 obtain⟨y,hy⟩:∃ y,y=l[0].tm:=⟨_,rfl⟩
 have HA:Hid (∀ b,Q w b→b.cell? ⟨a.block,a.off+3,none⟩=some (.int .i64 y)):=AC (fun b q=>by rw [hy];exact(hat.keep ha fun _ hp=>q.cell hp).2.2.2)
 have hlp:(0:Int)<(l.length:Int):=by omega
 rw [← hy] at htm
 clear hcs hat hy
 have KS:Hid (∀ b,Q (w.alloc (.cells #[.int .u64 (x.id:Nat),.string x.data,.bool x.mark,.int .i64 x.tm] 49)) b→(XRT w x a y) b):=AC (by
  intro b q
  obtain⟨b0,b1,b2,b3⟩:=Aa q
  exact⟨b0,b1,b2,b3,HA.out b (qa.trans q),q⟩)
 have CK:Hid (∀ b,(XRT w x a y) b→Calls Tryz.prog 102 #[.slice (some a) l.length cc] b fun e w'=>e=.returned (.bool true)∧(XRT w x a y) w'):=AC (by
  intro b h
  refine(AR l _ b true (.inl ⟨rfl,hR⟩) (by omega) (T.out.on (qa.trans h.2.2.2.2.2))).mono ?_
  rintro e w' ⟨rfl,q'⟩
  exact⟨rfl,KS.out _ (Q.trans h.2.2.2.2.2 q')⟩)
 have MA:Hid (∀ b,(XRT w x a y) b→Calls Tryz.prog 126 #[.agg #[.int .u64 (x.id:Nat),.string x.data,.bool x.mark,.int .i64 x.tm]] b fun e w'=>e=.returned (.bool true)∧(XRT w x a y) w'):=AC (by
  intro b h
  have M:=BF x b
  rw [hm,ver] at M
  refine M.mono ?_
  rintro e w' ⟨rfl,q'⟩
  exact⟨rfl,KS.out _ (Q.trans h.2.2.2.2.2 q')⟩)
 have SN:Hid ((XRT w x a y) (w.alloc (.cells #[.int .u64 (x.id:Nat),.string x.data,.bool x.mark,.int .i64 x.tm] 49)).drew):=AC (KS.out _ (Q.refl _).drew)
 subst hs
 have h1':¬ (x.id:Int)=0:=by omega
 have h1b:((x.id:Int)==0)=false:=by simpa using h1'
 have htm':¬ x.tm<y:=by omega
 clear hR hm
 (try simp only at HC)
 rw [ver]
 go_enter Tryz.func82,Tryz.ntmps82
 go_wp2_with fail
 refine wp_region_held_drew (S:=(XRT w x a y)) (by kernel_rfl) SN.out (fun hHeld=>?_)
 refine tkV 0 ?_
 refine aR [1] ?_
 refine aC rfl (fun K hK=>?_) aN
 go_simp
 go_at_call 102
 refine(CK.out _ (by assumption)).mono ?_
 rintro e w' ⟨rfl,hS⟩
 refine hK.out _ _ hS (fun hHeld=>?_)
 clear hK K
 refine pg ?_
 refine tkB 2 (.bool false) ?_
 refine tkB 3 (.bool false) ?_
 refine tkV 4 ?_
 refine tkB 5 (.bool false) ?_
 refine tkB 6 (.bool false) ?_
 refine tkB 7 (.bool false) ?_
 refine tkV 8 ?_
 refine tkB 9 (.bool false) ?_
 refine tkB 10 (.bool false) ?_
 refine tkB 11 (.bool false) ?_
 refine tkV 12 ?_
 refine aR [13] ?_
 refine aC rfl (fun K hK=>?_) aN
 go_simp
 go_at_call 126
 refine(MA.out _ (by assumption)).mono ?_
 rintro e w' ⟨rfl,hS⟩
 refine hK.out _ _ hS (fun hHeld=>?_)
 clear hK K
 refine pg ?_
 refine tkB 14 (.bool false) ?_
 refine tkB 15 (.bool false) ?_
 refine tkB 16 (.bool false) ?_
 refine tkV 17 ?_
 refine tkB 18 (.bool true) ?_
 refine tkB 19 (.bool true) ?_
 refine tkV 20 ?_
 refine tkV 21 ?_
 refine tkB 22 (.bool false) ?_
 refine tkB 23 (.bool false) ?_
 refine tkB 24 (.bool false) ?_
 refine tkB 25 (.bool false) ?_
 refine tkV 26 ?_
 refine tkV 27 ?_
 refine tkB 28 (.bool true) ?_
 refine tkB 29 (.bool true) ?_
 refine tkV 30 ?_
 refine tkV 31 ?_
 refine tkV 32 ?_
 refine tkV 33 ?_
 refine tkV 34 ?_
 refine tkV 35 ?_
 refine tkB 36 (.bool false) ?_
 refine tkB 37 (.bool false) ?_
 refine tkB 38 (.bool false) ?_
 refine wpAnyH_done (by kernel_rfl) ?_ _
 obtain⟨b0,b1,b2,b3,c3,q0⟩:=hS
 clear b0 b1 b2 b3 CK MA SN c3 HA
 go_wp2_with fail
 go_loopw [9] (fun I wr=>∃ i:Nat,i≤l.length∧I=.int .i64 i∧Q (w.alloc (.cells #[.int .u64 (x.id:Nat),.string x.data,.bool x.mark,.int .i64 x.tm] 49)) wr∧Hid (∀ j (hj:j<i) (hl:j<l.length),¬ x.id≤l[j].id)) (fun I _=>l.length - (intOf I).toNat)
 case atStart=>exact⟨0,Nat.zero_le _,rfl,q0,AC (fun j h=>by omega)⟩
 case round=>
  obtain⟨i,hil,rfl,qr,HK⟩:=hrel
  obtain⟨b0,b1,b2,b3,-⟩:=KS.out _ qr
  have qw:=qa.trans qr
  by_cases hlt:i<l.length
  ·obtain⟨a',ea,ha',hat'⟩:=HC.out i hlt
   obtain⟨c0,c1,c2,c3⟩:=hat'.keep (by rw [AG];exact ha') fun _ hp=>qw.cell hp
   cases ea
   clear hat'
   by_cases hge:x.id≤l[i].id
   ·exact absurd hge (Qp hany i hlt)
   ·have HK2:Hid (∀ j (hj:j<i+1) (hl:j<l.length),¬ x.id≤l[j].id):=AC (fun j hj hl=>by
     by_cases e:j=i
     ·subst e;exact hge
     ·exact HK.out j (by omega) hl)
    obtain⟨z,hz⟩:∃ z,z=l[i]:=⟨_,rfl⟩
    rw [← hz] at c0 c1 c2 c3 hge
    have hge':¬ (x.id:Int)≤(z.id:Int):=by omega
    clear hz hge
    go_wp2_with fail
    go_region
    go_wp2
    go_roundw
    case rel=>exact⟨i+1,by omega,by go_num,qr.drew,HK2⟩
    case measure=>simp [intOf];omega
  ·have h20':¬ (20:Int)≤(l.length:Int):=by omega
   have OW:=GO w.heap.size wr x qw.size
   have TB:=T.out.on (qw.alloc (.cells #[.int .u64 (x.id:Nat),.string x.data,.bool x.mark,.int .i64 x.tm] 49))
   have hs:w.heap.size≤(wr.alloc (.cells #[.int .u64 (x.id:Nat),.string x.data,.bool x.mark,.int .i64 x.tm] 49)).heap.size:=Q.size (qw.alloc _)
   go_wp2_with (at_builtin;refine AZ _ rfl _ _ 77 Tryz.underlying77 rfl w.heap.size _ _ [x] l rfl rfl OW TB hs ?ha ?_;(case ha=>first | (simp;done) | (simp;omega) | omega);intro v2 w2 o2 g2;have b2:=BA (w0:=w) (qw.alloc _) hs OW g2;clear g2)
   go_ret2
   exact⟨_,rfl,by simpa using o2,b2⟩
end
section
open Go.ChangeShapes Go.WideShapes Go.ChangeAt Go.RowKit
theorem IV(l:List Ver)(v:Value)(s:Int)(x:Ver)(w:World)(hR:okP l)(hs:s=1)(h1:x.id≠0)(hm:B9 x=true)(hn:l=[])(hany:l.any (fun y=>decide (x.id≤y.id))=false)(h20:l.length<20)(hl:l.length≤900)(hx:okV x)(ht:Vers w w.heap.size v l):
  Calls Tryz.prog 82 #[v,.int .i64 s,ver x] w fun e w'=>∃ v',e=.returned (.tuple #[v',.int .i64 0])∧OwnV w.heap.size w' v' (x :: l)∧Q w w':=by
 have HC:Hid (∀ k (h:k<l.length),∃ a,(match v with | .slice A _ _=>A | _=>none)=some a∧a.block<w.heap.size∧At w (a.add (k*4)) l[k]):=AC (by
  obtain⟨A,c,rfl,-,-,-,f⟩:=ht
  exact f)
 have T:=AC ht
 have qa:Q w (w.alloc (.cells #[.int .u64 (x.id:Nat),.string x.data,.bool x.mark,.int .i64 x.tm] 49)):=(Q.refl w).alloc _
 obtain⟨A,cc,rfl⟩:=ht.shape
 clear ht
 have KS:Hid (∀ b,Q (w.alloc (.cells #[.int .u64 (x.id:Nat),.string x.data,.bool x.mark,.int .i64 x.tm] 49)) b→(XRS w x) b):=AC (by
  intro b q
  obtain⟨b0,b1,b2,b3⟩:=Aa q
  exact⟨b0,b1,b2,b3,q⟩)
 have CK:Hid (∀ b,(XRS w x) b→Calls Tryz.prog 102 #[.slice A l.length cc] b fun e w'=>e=.returned (.bool true)∧(XRS w x) w'):=AC (by
  intro b h
  refine(AR l _ b true (.inl ⟨rfl,hR⟩) (by omega) (T.out.on (qa.trans h.2.2.2.2))).mono ?_
  rintro e w' ⟨rfl,q'⟩
  exact⟨rfl,KS.out _ (Q.trans h.2.2.2.2 q')⟩)
 have MA:Hid (∀ b,(XRS w x) b→Calls Tryz.prog 126 #[.agg #[.int .u64 (x.id:Nat),.string x.data,.bool x.mark,.int .i64 x.tm]] b fun e w'=>e=.returned (.bool true)∧(XRS w x) w'):=AC (by
  intro b h
  have M:=BF x b
  rw [hm,ver] at M
  refine M.mono ?_
  rintro e w' ⟨rfl,q'⟩
  exact⟨rfl,KS.out _ (Q.trans h.2.2.2.2 q')⟩)
 have SN:Hid ((XRS w x) (w.alloc (.cells #[.int .u64 (x.id:Nat),.string x.data,.bool x.mark,.int .i64 x.tm] 49)).drew):=AC (KS.out _ (Q.refl _).drew)
 subst hs
 have h1':¬ (x.id:Int)=0:=by omega
 have h1b:((x.id:Int)==0)=false:=by simpa using h1'
 clear hR hm
 subst hn
 simp only [List.length_nil] at *
 (try simp only at HC)
 rw [ver]
 go_enter Tryz.func82,Tryz.ntmps82
 go_wp2_with fail
 refine wp_region_held_drew (S:=(XRS w x)) (by kernel_rfl) SN.out (fun hHeld=>?_)
 refine tkV 0 ?_
 refine aR [1] ?_
 refine aC rfl (fun K hK=>?_) aN
 go_simp
 go_at_call 102
 refine(CK.out _ (by assumption)).mono ?_
 rintro e w' ⟨rfl,hS⟩
 refine hK.out _ _ hS (fun hHeld=>?_)
 clear hK K
 refine pg ?_
 refine tkB 2 (.bool false) ?_
 refine tkB 3 (.bool false) ?_
 refine tkV 4 ?_
 refine tkB 5 (.bool false) ?_
 refine tkB 6 (.bool false) ?_
 refine tkB 7 (.bool false) ?_
 refine tkV 8 ?_
 refine tkB 9 (.bool false) ?_
 refine tkB 10 (.bool false) ?_
 refine tkB 11 (.bool false) ?_
 refine tkV 12 ?_
 refine aR [13] ?_
 refine aC rfl (fun K hK=>?_) aN
 go_simp
 go_at_call 126
 refine(MA.out _ (by assumption)).mono ?_
 rintro e w' ⟨rfl,hS⟩
 refine hK.out _ _ hS (fun hHeld=>?_)
 clear hK K
 refine pg ?_
 refine tkB 14 (.bool false) ?_
 refine tkB 15 (.bool false) ?_
 refine tkB 16 (.bool false) ?_
 refine tkV 17 ?_
 refine tkB 18 (.bool true) ?_
 refine tkB 19 (.bool true) ?_
 refine tkV 20 ?_
 refine tkV 21 ?_
 refine tkB 22 (.bool false) ?_
 refine tkB 23 (.bool false) ?_
 refine tkB 24 (.bool false) ?_
 refine tkB 25 (.bool false) ?_
 refine tkV 26 ?_
 refine tkV 27 ?_
 refine tkB 28 (.bool false) ?_
 refine tkB 29 (.bool false) ?_
 refine tkU 30 ?_
 refine tkU 31 ?_
 refine tkU 32 ?_
 refine tkU 33 ?_
 refine tkU 34 ?_
 refine tkU 35 ?_
 refine tkU 36 ?_
 refine tkB 37 (.bool false) ?_
 refine tkB 38 (.bool false) ?_
 refine wpAnyH_done (by kernel_rfl) ?_ _
 obtain⟨b0,b1,b2,b3,q0⟩:=hS
 clear b0 b1 b2 b3 CK MA SN HC
 go_wp2_with fail
 go_loopw [9] (fun I wr=>I=.int .i64 0∧Q (w.alloc (.cells #[.int .u64 (x.id:Nat),.string x.data,.bool x.mark,.int .i64 x.tm] 49)) wr) (fun I _=>0)
 case atStart=>exact⟨rfl,q0⟩
 case round=>
  obtain⟨rfl,qr⟩:=hrel
  obtain⟨b0,b1,b2,b3,-⟩:=KS.out _ qr
  have qw:=qa.trans qr
  have OW:=GO w.heap.size wr x qw.size
  have TB:=T.out.on (qw.alloc (.cells #[.int .u64 (x.id:Nat),.string x.data,.bool x.mark,.int .i64 x.tm] 49))
  have hs:w.heap.size≤(wr.alloc (.cells #[.int .u64 (x.id:Nat),.string x.data,.bool x.mark,.int .i64 x.tm] 49)).heap.size:=Q.size (qw.alloc _)
  go_wp2_with (at_builtin;refine AZ _ rfl _ _ 77 Tryz.underlying77 rfl w.heap.size _ _ [x] [] rfl rfl OW TB hs ?ha ?_;(case ha=>first | (simp;done) | (simp;omega) | omega);intro v2 w2 o2 g2;have b2:=BA (w0:=w) (qw.alloc _) hs OW g2;clear g2)
  go_ret2
  exact⟨_,rfl,by simpa using o2,b2⟩
end
end Go.Proofs.YtjjlbbfhmpbneaaGreat
