/-
  Contract of the document's Check.
-/
import Derived.Test.YtjjlbbfhmpbneaaGreatLa
import Derived.Deep.RegionHeld3
namespace Go.Proofs.YtjjlbbfhmpbneaaGreat
open AllReadyH renaming cons → aC, nil → aN
open Lib renaming hid → AC
set_option maxHeartbeats 16000000
set_option maxRecDepth 100000
set_option linter.unusedVariables false
set_option linter.unusedSimpArgs false
section
open Go.ChangeShapes Go.WideShapes Go.ChangeAt Go.RowKit
def BH(x y:Ver):Bool:=if y.id=0 then decide (x.id=0) else if x.id=0 then false else decide (x.id≤y.id)
def En(l:List Ver)(i n:Nat):Prop:=∀ k (hi:i<l.length) (hk:k<n) (hk':k<l.length),BH l[k] l[i]=false
def Ta(l:List Ver)(i:Nat):Prop:=∀ j (hj:j+1=i) (h:i<l.length),¬ (l[j].tm<l[i].tm)
def Ca(l:List Ver)(i:Nat):Prop:=(∀ h:i<l.length,B9 l[i]=true)∧Ta l i∧En l i i
def okP(l:List Ver):Prop:=l.length≤20∧∀ i,Ca l i
def QU(l:List Ver)(R:Bool):Prop:=(R=true∧okP l)∨(R=false∧¬ okP l)
theorem Gi(l:List Ver):∃ R,QU l R:=by
 by_cases h:okP l
 ·exact⟨true,.inl ⟨rfl,h⟩⟩
 ·exact⟨false,.inr ⟨rfl,h⟩⟩
theorem Dt{l:List Ver}{R:Bool}(h:QU l R)(k:¬ okP l):R=false:=by
 rcases h with⟨-,h⟩ | ⟨h,-⟩
 ·exact absurd h k
 ·exact h
theorem QT{l:List Ver}{R:Bool}(h:QU l R)(k:okP l):R=true:=by
 rcases h with⟨h,-⟩ | ⟨-,h⟩
 ·exact h
 ·exact absurd k h
theorem Of{l:List Ver}{i:Nat}(h:l.length≤i):Ca l i:=⟨fun k=>by omega,fun j hj k=>by omega,fun k hi=>by omega⟩
theorem Nf{l:List Ver}{R:Bool}(h:QU l R)(k:∀ j,j<l.length→Ca l j):R=decide (l.length≤20):=by
 have hall:∀ i,Ca l i:=fun i=>by
  by_cases hi:i<l.length
  ·exact k i hi
  ·exact Of (by omega)
 by_cases h20:l.length≤20
 ·rw [QT h ⟨h20,hall⟩];simp [h20]
 ·rw [Dt h (fun o=>h20 o.1)];simp [h20]
theorem AR(l:List Ver)(v:Value)(w:World)(R:Bool)(hR:QU l R)(hl:l.length≤1000)(ht:Vers w w.heap.size v l):
  Calls Tryz.prog 102 #[v] w fun e w'=>e=.returned (.bool R)∧Q w w':=by
 obtain⟨A,c,rfl,-,-,-,hcells⟩:=ht
 have HC:=AC hcells
 have HR:=AC hR
 clear hcells hR
 go_enter Tryz.func102,Tryz.ntmps102
 go_wp2_with fail
 go_loopw [3] (fun I wr=>∃ i:Nat,i≤l.length∧I=.int .i64 i∧Q w wr∧Hid (∀ j,j<i→Ca l j)) (fun I _=>l.length - (intOf I).toNat)
 case atStart=>exact⟨0,Nat.zero_le _,rfl,Q.refl _,AC (fun j h=>by omega)⟩
 case round=>
  obtain⟨i,hil,rfl,q0,HK⟩:=hrel
  by_cases hlt:i<l.length
  ·obtain⟨a,rfl,ha,hat⟩:=HC.out i hlt
   obtain⟨x,hx⟩:∃ x,x=l[i]:=⟨_,rfl⟩
   rw [← hx] at hat
   have HX:=AC hx
   clear hx
   have AT:∀ b,Q w b→At b (a.add (i*4)) x:=fun b q=>hat.keep (by rw [AG];exact ha) fun _ hp=>q.cell hp
   have M0:∀ b,Calls Tryz.prog 126 #[ver x] b fun e w'=>e=.returned (.bool (B9 x))∧Q b w':=fun b=>BF x b
   cases hm:B9 x with
   | false=>
     have HV:=AC (Dt HR.out (fun o=>by have:=(o.2 i).1 hlt;rw [← HX.out,hm] at this;simp at this))
     rw [hm] at M0
     have KS:Hid (∀ b,Q w b→(fun w'=>w'.cell? (a.add (i*4))=some (.int .u64 (x.id:Nat))∧w'.cell? ⟨(a.add (i*4)).block,(a.add (i*4)).off+1,none⟩=some (.string x.data)∧w'.cell? ⟨(a.add (i*4)).block,(a.add (i*4)).off+2,none⟩=some (.bool x.mark)∧w'.cell? ⟨(a.add (i*4)).block,(a.add (i*4)).off+3,none⟩=some (.int .i64 x.tm)∧Q w w') b):=AC (by
      intro b q
      obtain⟨c0,c1,c2,c3⟩:=AT b q
      exact⟨c0,c1,c2,c3,q⟩)
     have M1:Hid (∀ b,(fun w'=>w'.cell? (a.add (i*4))=some (.int .u64 (x.id:Nat))∧w'.cell? ⟨(a.add (i*4)).block,(a.add (i*4)).off+1,none⟩=some (.string x.data)∧w'.cell? ⟨(a.add (i*4)).block,(a.add (i*4)).off+2,none⟩=some (.bool x.mark)∧w'.cell? ⟨(a.add (i*4)).block,(a.add (i*4)).off+3,none⟩=some (.int .i64 x.tm)∧Q w w') b→Calls Tryz.prog 126 #[.agg #[.int .u64 (x.id:Nat),.string x.data,.bool x.mark,.int .i64 x.tm]] b fun e w'=>e=.returned (.bool false)∧(fun w'=>w'.cell? (a.add (i*4))=some (.int .u64 (x.id:Nat))∧w'.cell? ⟨(a.add (i*4)).block,(a.add (i*4)).off+1,none⟩=some (.string x.data)∧w'.cell? ⟨(a.add (i*4)).block,(a.add (i*4)).off+2,none⟩=some (.bool x.mark)∧w'.cell? ⟨(a.add (i*4)).block,(a.add (i*4)).off+3,none⟩=some (.int .i64 x.tm)∧Q w w') w'):=AC (by
      intro b h
      refine(M0 b).mono ?_
      rintro e w' ⟨rfl,q'⟩
      exact⟨rfl,KS.out _ (Q.trans h.2.2.2.2 q')⟩)
     have SN:Hid ((fun w'=>w'.cell? (a.add (i*4))=some (.int .u64 (x.id:Nat))∧w'.cell? ⟨(a.add (i*4)).block,(a.add (i*4)).off+1,none⟩=some (.string x.data)∧w'.cell? ⟨(a.add (i*4)).block,(a.add (i*4)).off+2,none⟩=some (.bool x.mark)∧w'.cell? ⟨(a.add (i*4)).block,(a.add (i*4)).off+3,none⟩=some (.int .i64 x.tm)∧Q w w') wr.drew):=AC (KS.out _ q0.drew)
     clear AT M0
     go_wp2_with fail
     refine wp_region_held_drew (S:=(fun w'=>w'.cell? (a.add (i*4))=some (.int .u64 (x.id:Nat))∧w'.cell? ⟨(a.add (i*4)).block,(a.add (i*4)).off+1,none⟩=some (.string x.data)∧w'.cell? ⟨(a.add (i*4)).block,(a.add (i*4)).off+2,none⟩=some (.bool x.mark)∧w'.cell? ⟨(a.add (i*4)).block,(a.add (i*4)).off+3,none⟩=some (.int .i64 x.tm)∧Q w w')) (by kernel_rfl) SN.out (fun hHeld=>?_)
     refine tkV 0 ?_
     refine tkV 1 ?_
     refine tkV 2 ?_
     refine tkV 3 ?_
     refine aR [4] ?_
     refine aC rfl (fun K hK=>?_) aN
     go_simp
     go_at_call 126
     refine(M1.out _ (by assumption)).mono ?_
     rintro e w' ⟨rfl,hS⟩
     refine hK.out _ _ hS (fun hHeld=>?_)
     clear hK K
     refine pg ?_
     refine tkV 5 ?_
     refine tkV 6 ?_
     refine tkU 7 ?_
     refine tkU 8 ?_
     refine tkU 9 ?_
     refine tkU 10 ?_
     refine tkU 11 ?_
     refine tkU 12 ?_
     refine tkU 13 ?_
     refine tkU 14 ?_
     refine tkU 15 ?_
     refine tkU 16 ?_
     refine tkU 17 ?_
     refine tkU 18 ?_
     refine tkU 19 ?_
     refine tkU 20 ?_
     refine tkU 21 ?_
     refine tkU 22 ?_
     refine tkV 23 ?_
     refine wpAnyH_done (by kernel_rfl) ?_ _
     have q:=hS.2.2.2.2
     clear KS M1 SN
     go_wp2
     go_ret
     exact⟨AE (by rw [HV.out]),q⟩
   | true=>
     rw [hm] at M0
     have hm:=AC hm
     have HAT:=AC AT
     by_cases hi0:i=0
     ·have TM:Hid (Ta l i):=AC (fun j hj=>by omega)
      have hi1:¬ (0:Int)<(i:Int):=by omega
      have hi2:decide ((0:Int)<(i:Int))=false:=decide_eq_false hi1
      clear hi0
      have KS:Hid (∀ b,Q w b→(fun w'=>w'.cell? (a.add (i*4))=some (.int .u64 (x.id:Nat))∧w'.cell? ⟨(a.add (i*4)).block,(a.add (i*4)).off+1,none⟩=some (.string x.data)∧w'.cell? ⟨(a.add (i*4)).block,(a.add (i*4)).off+2,none⟩=some (.bool x.mark)∧w'.cell? ⟨(a.add (i*4)).block,(a.add (i*4)).off+3,none⟩=some (.int .i64 x.tm)∧Q w w') b):=AC (by
       intro b q
       obtain⟨c0,c1,c2,c3⟩:=AT b q
       exact⟨c0,c1,c2,c3,q⟩)
      have M1:Hid (∀ b,(fun w'=>w'.cell? (a.add (i*4))=some (.int .u64 (x.id:Nat))∧w'.cell? ⟨(a.add (i*4)).block,(a.add (i*4)).off+1,none⟩=some (.string x.data)∧w'.cell? ⟨(a.add (i*4)).block,(a.add (i*4)).off+2,none⟩=some (.bool x.mark)∧w'.cell? ⟨(a.add (i*4)).block,(a.add (i*4)).off+3,none⟩=some (.int .i64 x.tm)∧Q w w') b→Calls Tryz.prog 126 #[.agg #[.int .u64 (x.id:Nat),.string x.data,.bool x.mark,.int .i64 x.tm]] b fun e w'=>e=.returned (.bool true)∧(fun w'=>w'.cell? (a.add (i*4))=some (.int .u64 (x.id:Nat))∧w'.cell? ⟨(a.add (i*4)).block,(a.add (i*4)).off+1,none⟩=some (.string x.data)∧w'.cell? ⟨(a.add (i*4)).block,(a.add (i*4)).off+2,none⟩=some (.bool x.mark)∧w'.cell? ⟨(a.add (i*4)).block,(a.add (i*4)).off+3,none⟩=some (.int .i64 x.tm)∧Q w w') w'):=AC (by
       intro b h
       refine(M0 b).mono ?_
       rintro e w' ⟨rfl,q'⟩
       exact⟨rfl,KS.out _ (Q.trans h.2.2.2.2 q')⟩)
      have SN:Hid ((fun w'=>w'.cell? (a.add (i*4))=some (.int .u64 (x.id:Nat))∧w'.cell? ⟨(a.add (i*4)).block,(a.add (i*4)).off+1,none⟩=some (.string x.data)∧w'.cell? ⟨(a.add (i*4)).block,(a.add (i*4)).off+2,none⟩=some (.bool x.mark)∧w'.cell? ⟨(a.add (i*4)).block,(a.add (i*4)).off+3,none⟩=some (.int .i64 x.tm)∧Q w w') wr.drew):=AC (KS.out _ q0.drew)
      clear AT M0
      go_wp2_with fail
      refine wp_region_held_drew (S:=(fun w'=>w'.cell? (a.add (i*4))=some (.int .u64 (x.id:Nat))∧w'.cell? ⟨(a.add (i*4)).block,(a.add (i*4)).off+1,none⟩=some (.string x.data)∧w'.cell? ⟨(a.add (i*4)).block,(a.add (i*4)).off+2,none⟩=some (.bool x.mark)∧w'.cell? ⟨(a.add (i*4)).block,(a.add (i*4)).off+3,none⟩=some (.int .i64 x.tm)∧Q w w')) (by kernel_rfl) SN.out (fun hHeld=>?_)
      refine tkV 0 ?_
      refine tkV 1 ?_
      refine tkV 2 ?_
      refine tkV 3 ?_
      refine aR [4] ?_
      refine aC rfl (fun K hK=>?_) aN
      go_simp
      go_at_call 126
      refine(M1.out _ (by assumption)).mono ?_
      rintro e w' ⟨rfl,hS⟩
      refine hK.out _ _ hS (fun hHeld=>?_)
      clear hK K
      refine pg ?_
      refine tkV 5 ?_
      refine tkV 6 ?_
      refine tkV 7 ?_
      refine tkB 8 (.bool false) ?_
      refine tkV 9 ?_
      refine tkU 10 ?_
      refine tkU 11 ?_
      refine tkU 12 ?_
      refine tkU 13 ?_
      refine tkU 14 ?_
      refine tkU 15 ?_
      refine tkU 16 ?_
      refine tkU 17 ?_
      refine tkU 18 ?_
      refine tkU 19 ?_
      refine tkU 20 ?_
      refine tkU 21 ?_
      refine tkV 22 ?_
      refine tkV 23 ?_
      refine wpAnyH_done (by kernel_rfl) ?_ _
      have q:=hS.2.2.2.2
      clear KS M1 SN
      go_wp2_with fail
      go_loopw [4] (fun K wr2=>∃ k:Nat,k≤i∧K=.int .i64 k∧Q w wr2∧Hid (En l i k)) (fun K _=>i - (intOf K).toNat)
      case atStart=>exact⟨0,Nat.zero_le _,rfl,q,AC (fun k hi hk=>by omega)⟩
      case round=>
       obtain⟨k,hk,rfl,q2,HP⟩:=hrel
       by_cases hlk:k<i
       ·exact absurd hlk (by omega)
       ·have HK2:Hid (∀ j',j'<i+1→Ca l j'):=AC (fun j' hj'=>by
         by_cases e:j'=i
         ·rw [e];exact⟨fun h=>by rw [← HX.out];exact hm.out,TM.out,by have:=HP.out;rwa [show k=i by omega] at this⟩
         ·exact HK.out j' (by omega))
        go_wp2
        go_roundw
        case rel=>exact⟨i+1,by omega,by go_num,q2,HK2⟩
        case measure=>simp [intOf];omega
     ·obtain⟨j,hj⟩:∃ j,j+1=i:=⟨i - 1,by omega⟩
      obtain⟨a',ea,-,hbt⟩:=HC.out j (by omega)
      obtain rfl:=Option.some.inj ea
      clear ea
      have hjl:j<l.length:=by omega
      obtain⟨y,hy⟩:∃ y,y=l[j]'hjl:=⟨_,rfl⟩
      rw [← hy] at hbt
      have BT:∀ b,Q w b→At b (a.add (j*4)) y:=fun b q=>hbt.keep (by rw [AG];exact ha) fun _ hp=>q.cell hp
      have HY:=AC hy
      have HJ:=AC hj
      have hi1:(0:Int)<(i:Int):=by omega
      have hi2:(i:Int) - 1=(j:Int):=by omega
      have wj:IntKind.i64.wrap (j:Int)=(j:Int):=by rw [IntKind.wrap_i64];omega
      have hj1:(j:Int)<(l.length:Int):=by omega
      clear hy hbt hj hi0
      by_cases htm:y.tm<x.tm
      ·have HV:=AC (Dt HR.out (fun o=>(o.2 i).2.1 j HJ.out hlt (by rw [← HX.out,← HY.out];exact htm)))
       have KS:Hid (∀ b,Q w b→(fun w'=>w'.cell? (a.add (i*4))=some (.int .u64 (x.id:Nat))∧w'.cell? ⟨(a.add (i*4)).block,(a.add (i*4)).off+1,none⟩=some (.string x.data)∧w'.cell? ⟨(a.add (i*4)).block,(a.add (i*4)).off+2,none⟩=some (.bool x.mark)∧w'.cell? ⟨(a.add (i*4)).block,(a.add (i*4)).off+3,none⟩=some (.int .i64 x.tm)∧w'.cell? ⟨(a.add (j*4)).block,(a.add (j*4)).off+3,none⟩=some (.int .i64 y.tm)∧Q w w') b):=AC (by
        intro b q
        obtain⟨c0,c1,c2,c3⟩:=AT b q
        obtain⟨-,-,-,d3⟩:=BT b q
        exact⟨c0,c1,c2,c3,d3,q⟩)
       have M1:Hid (∀ b,(fun w'=>w'.cell? (a.add (i*4))=some (.int .u64 (x.id:Nat))∧w'.cell? ⟨(a.add (i*4)).block,(a.add (i*4)).off+1,none⟩=some (.string x.data)∧w'.cell? ⟨(a.add (i*4)).block,(a.add (i*4)).off+2,none⟩=some (.bool x.mark)∧w'.cell? ⟨(a.add (i*4)).block,(a.add (i*4)).off+3,none⟩=some (.int .i64 x.tm)∧w'.cell? ⟨(a.add (j*4)).block,(a.add (j*4)).off+3,none⟩=some (.int .i64 y.tm)∧Q w w') b→Calls Tryz.prog 126 #[.agg #[.int .u64 (x.id:Nat),.string x.data,.bool x.mark,.int .i64 x.tm]] b fun e w'=>e=.returned (.bool true)∧(fun w'=>w'.cell? (a.add (i*4))=some (.int .u64 (x.id:Nat))∧w'.cell? ⟨(a.add (i*4)).block,(a.add (i*4)).off+1,none⟩=some (.string x.data)∧w'.cell? ⟨(a.add (i*4)).block,(a.add (i*4)).off+2,none⟩=some (.bool x.mark)∧w'.cell? ⟨(a.add (i*4)).block,(a.add (i*4)).off+3,none⟩=some (.int .i64 x.tm)∧w'.cell? ⟨(a.add (j*4)).block,(a.add (j*4)).off+3,none⟩=some (.int .i64 y.tm)∧Q w w') w'):=AC (by
        intro b h
        refine(M0 b).mono ?_
        rintro e w' ⟨rfl,q'⟩
        exact⟨rfl,KS.out _ (Q.trans h.2.2.2.2.2 q')⟩)
       have SN:Hid ((fun w'=>w'.cell? (a.add (i*4))=some (.int .u64 (x.id:Nat))∧w'.cell? ⟨(a.add (i*4)).block,(a.add (i*4)).off+1,none⟩=some (.string x.data)∧w'.cell? ⟨(a.add (i*4)).block,(a.add (i*4)).off+2,none⟩=some (.bool x.mark)∧w'.cell? ⟨(a.add (i*4)).block,(a.add (i*4)).off+3,none⟩=some (.int .i64 x.tm)∧w'.cell? ⟨(a.add (j*4)).block,(a.add (j*4)).off+3,none⟩=some (.int .i64 y.tm)∧Q w w') wr.drew):=AC (KS.out _ q0.drew)
       clear AT M0 BT
       go_wp2_with fail
       refine wp_region_held_drew (S:=(fun w'=>w'.cell? (a.add (i*4))=some (.int .u64 (x.id:Nat))∧w'.cell? ⟨(a.add (i*4)).block,(a.add (i*4)).off+1,none⟩=some (.string x.data)∧w'.cell? ⟨(a.add (i*4)).block,(a.add (i*4)).off+2,none⟩=some (.bool x.mark)∧w'.cell? ⟨(a.add (i*4)).block,(a.add (i*4)).off+3,none⟩=some (.int .i64 x.tm)∧w'.cell? ⟨(a.add (j*4)).block,(a.add (j*4)).off+3,none⟩=some (.int .i64 y.tm)∧Q w w')) (by kernel_rfl) SN.out (fun hHeld=>?_)
       refine tkV 0 ?_
       refine tkV 1 ?_
       refine tkV 2 ?_
       refine tkV 3 ?_
       refine aR [4] ?_
       refine aC rfl (fun K hK=>?_) aN
       go_simp
       go_at_call 126
       refine(M1.out _ (by assumption)).mono ?_
       rintro e w' ⟨rfl,hS⟩
       refine hK.out _ _ hS (fun hHeld=>?_)
       clear hK K
       refine pg ?_
       refine tkV 5 ?_
       refine tkV 6 ?_
       refine tkV 7 ?_
       refine tkB 8 (.bool true) ?_
       refine tkV 9 ?_
       refine tkV 10 ?_
       refine tkV 11 ?_
       refine tkV 12 ?_
       refine tkV 13 ?_
       refine tkV 14 ?_
       refine tkV 15 ?_
       refine tkV 16 ?_
       refine tkV 17 ?_
       refine tkV 18 ?_
       refine tkV 19 ?_
       refine tkV 20 ?_
       refine tkV 21 ?_
       refine tkV 22 ?_
       refine tkV 23 ?_
       refine wpAnyH_done (by kernel_rfl) ?_ _
       have q:=hS.2.2.2.2.2
       clear KS M1 SN
       go_wp2
       go_ret
       exact⟨AE (by rw [HV.out]),q⟩
      ·have TM:Hid (Ta l i):=AC (fun j' hj h=>by(obtain rfl:j'=j:=by have:=HJ.out;omega);rw [← HX.out,← HY.out];exact htm)
       have htm2:decide (y.tm<x.tm)=false:=decide_eq_false htm
       have KS:Hid (∀ b,Q w b→(fun w'=>w'.cell? (a.add (i*4))=some (.int .u64 (x.id:Nat))∧w'.cell? ⟨(a.add (i*4)).block,(a.add (i*4)).off+1,none⟩=some (.string x.data)∧w'.cell? ⟨(a.add (i*4)).block,(a.add (i*4)).off+2,none⟩=some (.bool x.mark)∧w'.cell? ⟨(a.add (i*4)).block,(a.add (i*4)).off+3,none⟩=some (.int .i64 x.tm)∧w'.cell? ⟨(a.add (j*4)).block,(a.add (j*4)).off+3,none⟩=some (.int .i64 y.tm)∧Q w w') b):=AC (by
        intro b q
        obtain⟨c0,c1,c2,c3⟩:=AT b q
        obtain⟨-,-,-,d3⟩:=BT b q
        exact⟨c0,c1,c2,c3,d3,q⟩)
       have M1:Hid (∀ b,(fun w'=>w'.cell? (a.add (i*4))=some (.int .u64 (x.id:Nat))∧w'.cell? ⟨(a.add (i*4)).block,(a.add (i*4)).off+1,none⟩=some (.string x.data)∧w'.cell? ⟨(a.add (i*4)).block,(a.add (i*4)).off+2,none⟩=some (.bool x.mark)∧w'.cell? ⟨(a.add (i*4)).block,(a.add (i*4)).off+3,none⟩=some (.int .i64 x.tm)∧w'.cell? ⟨(a.add (j*4)).block,(a.add (j*4)).off+3,none⟩=some (.int .i64 y.tm)∧Q w w') b→Calls Tryz.prog 126 #[.agg #[.int .u64 (x.id:Nat),.string x.data,.bool x.mark,.int .i64 x.tm]] b fun e w'=>e=.returned (.bool true)∧(fun w'=>w'.cell? (a.add (i*4))=some (.int .u64 (x.id:Nat))∧w'.cell? ⟨(a.add (i*4)).block,(a.add (i*4)).off+1,none⟩=some (.string x.data)∧w'.cell? ⟨(a.add (i*4)).block,(a.add (i*4)).off+2,none⟩=some (.bool x.mark)∧w'.cell? ⟨(a.add (i*4)).block,(a.add (i*4)).off+3,none⟩=some (.int .i64 x.tm)∧w'.cell? ⟨(a.add (j*4)).block,(a.add (j*4)).off+3,none⟩=some (.int .i64 y.tm)∧Q w w') w'):=AC (by
        intro b h
        refine(M0 b).mono ?_
        rintro e w' ⟨rfl,q'⟩
        exact⟨rfl,KS.out _ (Q.trans h.2.2.2.2.2 q')⟩)
       have SN:Hid ((fun w'=>w'.cell? (a.add (i*4))=some (.int .u64 (x.id:Nat))∧w'.cell? ⟨(a.add (i*4)).block,(a.add (i*4)).off+1,none⟩=some (.string x.data)∧w'.cell? ⟨(a.add (i*4)).block,(a.add (i*4)).off+2,none⟩=some (.bool x.mark)∧w'.cell? ⟨(a.add (i*4)).block,(a.add (i*4)).off+3,none⟩=some (.int .i64 x.tm)∧w'.cell? ⟨(a.add (j*4)).block,(a.add (j*4)).off+3,none⟩=some (.int .i64 y.tm)∧Q w w') wr.drew):=AC (KS.out _ q0.drew)
       clear AT M0 BT
       go_wp2_with fail
       refine wp_region_held_drew (S:=(fun w'=>w'.cell? (a.add (i*4))=some (.int .u64 (x.id:Nat))∧w'.cell? ⟨(a.add (i*4)).block,(a.add (i*4)).off+1,none⟩=some (.string x.data)∧w'.cell? ⟨(a.add (i*4)).block,(a.add (i*4)).off+2,none⟩=some (.bool x.mark)∧w'.cell? ⟨(a.add (i*4)).block,(a.add (i*4)).off+3,none⟩=some (.int .i64 x.tm)∧w'.cell? ⟨(a.add (j*4)).block,(a.add (j*4)).off+3,none⟩=some (.int .i64 y.tm)∧Q w w')) (by kernel_rfl) SN.out (fun hHeld=>?_)
       refine tkV 0 ?_
       refine tkV 1 ?_
       refine tkV 2 ?_
       refine tkV 3 ?_
       refine aR [4] ?_
       refine aC rfl (fun K hK=>?_) aN
       go_simp
       go_at_call 126
       refine(M1.out _ (by assumption)).mono ?_
       rintro e w' ⟨rfl,hS⟩
       refine hK.out _ _ hS (fun hHeld=>?_)
       clear hK K
       refine pg ?_
       refine tkV 5 ?_
       refine tkV 6 ?_
       refine tkV 7 ?_
       refine tkB 8 (.bool true) ?_
       refine tkV 9 ?_
       refine tkV 10 ?_
       refine tkV 11 ?_
       refine tkV 12 ?_
       refine tkV 13 ?_
       refine tkV 14 ?_
       refine tkV 15 ?_
       refine tkV 16 ?_
       refine tkV 17 ?_
       refine tkV 18 ?_
       refine tkV 19 ?_
       refine tkV 20 ?_
       refine tkV 21 ?_
       refine tkV 22 ?_
       refine tkV 23 ?_
       refine wpAnyH_done (by kernel_rfl) ?_ _
       have q:=hS.2.2.2.2.2
       clear KS M1 SN
       go_wp2_with fail
       go_loopw [4] (fun K wr2=>∃ k:Nat,k≤i∧K=.int .i64 k∧Q w wr2∧Hid (En l i k)) (fun K _=>i - (intOf K).toNat)
       case atStart=>exact⟨0,Nat.zero_le _,rfl,q,AC (fun k hi hk=>by omega)⟩
       case round=>
        obtain⟨k,hk,rfl,q2,HP⟩:=hrel
        by_cases hlk:k<i
        ·obtain⟨a',ea,-,hat2⟩:=HC.out k (by omega)
         obtain rfl:=Option.some.inj ea
         clear ea
         obtain⟨z,hz⟩:∃ z,z=l[k]'(by omega):=⟨_,rfl⟩
         rw [← hz] at hat2
         obtain⟨d0,-,-,-⟩:=hat2.keep (by rw [AG];exact ha) fun _ hp=>q2.cell hp
         obtain⟨c0,-,-,-⟩:=HAT.out _ q2
         have HZ:=AC hz
         clear hz hat2
         have NO:BH z x=true→R=false:=fun hb=>Dt HR.out (fun o=>by have:=(o.2 (i)).2.2 k hlt hlk (by omega);rw [← HX.out,← HZ.out,hb] at this;simp at this)
         have YES:BH z x=false→En l (i) (k+1):=fun hb k' hi hk' hk2=>by
          by_cases e:k'=k
          ·subst e;rw [← HX.out,← HZ.out];exact hb
          ·exact HP.out k' hi (by omega) hk2
         by_cases hx0:x.id=0
         ·by_cases hz0:z.id=0
          ·skip
           have HV:=AC (NO (by rw [BH];simp [*]))
           have x0:((x.id:Int)==0)=true:=by simp [*]
           have z0:((z.id:Int)==0)=true:=by simp [*]
           clear hx0 hz0
           clear NO YES
           go_wp2_with fail
           go_quiet (fail)
           go_wp2
           go_ret
           exact⟨AE (by rw [HV.out]),q2.drewN _⟩
          ·skip
           have HV:=AC (YES (by rw [BH];simp [*]))
           have x0:((x.id:Int)==0)=true:=by simp [*]
           have z0:((z.id:Int)==0)=false:=by simp [*]
           have x1:((x.id:Int) != 0)=false:=by simp [*]
           have z1:((z.id:Int) != 0)=true:=by simp [*]
           clear hx0 hz0
           clear NO YES
           go_wp2_with fail
           go_quiet (fail)
           go_wp2
           go_roundw
           case rel=>exact⟨k+1,by omega,by go_num,q2.drewN _,HV⟩
           case measure=>simp [intOf];omega
         ·by_cases hz0:z.id=0
          ·skip
           have HV:=AC (YES (by rw [BH];simp [*]))
           have x0:((x.id:Int)==0)=false:=by simp [*]
           have z0:((z.id:Int)==0)=true:=by simp [*]
           have x1:((x.id:Int) != 0)=true:=by simp [*]
           have z1:((z.id:Int) != 0)=false:=by simp [*]
           clear hx0 hz0
           clear NO YES
           go_wp2_with fail
           go_quiet (fail)
           go_wp2
           go_roundw
           case rel=>exact⟨k+1,by omega,by go_num,q2.drewN _,HV⟩
           case measure=>simp [intOf];omega
          ·by_cases hzx:z.id≤x.id
           ·skip
            have HV:=AC (NO (by rw [BH];simp [*]))
            have x0:((x.id:Int)==0)=false:=by simp [*]
            have z0:((z.id:Int)==0)=false:=by simp [*]
            have x1:((x.id:Int) != 0)=true:=by simp [*]
            have z1:((z.id:Int) != 0)=true:=by simp [*]
            have hzx':(z.id:Int)≤(x.id:Int):=by omega
            clear hx0 hz0 hzx
            clear NO YES
            go_wp2_with fail
            go_quiet (fail)
            go_wp2
            go_ret
            exact⟨AE (by rw [HV.out]),q2.drewN _⟩
           ·skip
            have HV:=AC (YES (by rw [BH];simp [*]))
            have x0:((x.id:Int)==0)=false:=by simp [*]
            have z0:((z.id:Int)==0)=false:=by simp [*]
            have x1:((x.id:Int) != 0)=true:=by simp [*]
            have z1:((z.id:Int) != 0)=true:=by simp [*]
            have hzx':¬ (z.id:Int)≤(x.id:Int):=by omega
            have hzx2:decide ((z.id:Int)≤(x.id:Int))=false:=decide_eq_false hzx'
            clear hx0 hz0 hzx
            clear NO YES
            go_wp2_with fail
            go_quiet (fail)
            go_wp2
            go_roundw
            case rel=>exact⟨k+1,by omega,by go_num,q2.drewN _,HV⟩
            case measure=>simp [intOf];omega
        ·have HK2:Hid (∀ j',j'<i+1→Ca l j'):=AC (fun j' hj'=>by
          by_cases e:j'=i
          ·rw [e];exact⟨fun h=>by rw [← HX.out];exact hm.out,TM.out,by have:=HP.out;rwa [show k=i by omega] at this⟩
          ·exact HK.out j' (by omega))
         go_wp2
         go_roundw
         case rel=>exact⟨i+1,by omega,by go_num,q2,HK2⟩
         case measure=>simp [intOf];omega
  ·have HV:=AC (Nf HR.out (fun j h=>HK.out j (by omega)))
   by_cases h20:l.length≤20
   ·have h20':(l.length:Int)≤20:=by omega
    go_wp2
    go_ret
    exact⟨AE (by rw [HV.out];simp [h20]),q0⟩
   ·have h20':¬ (l.length:Int)≤20:=by omega
    go_wp2
    go_ret
    exact⟨AE (by rw [HV.out];simp [h20]),q0⟩
end
end Go.Proofs.YtjjlbbfhmpbneaaGreat
