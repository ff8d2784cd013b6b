/-
  May uploads be? Contracts of the program's Check and the document's May. Boxes as whole blocks.
-/
import Derived.Test.YtjjlbbfhmpbneaaGreatLc
import Derived.Maps.OwnIn
namespace Go.Proofs.YtjjlbbfhmpbneaaGreat
open AllReadyH renaming cons → aC, nil → aN
open Lib renaming hid → AC
set_option maxHeartbeats 16000000
set_option maxRecDepth 100000
set_option linter.unusedVariables false
set_option linter.unusedSimpArgs false
section
open Go.ChangeShapes Go.WideShapes Go.ChangeAt Go.RowKit
def D2(l:List Upl)(i:Nat):Prop:=∀ h:i<l.length,DF l[i]∧∀ j (hj:j+1=i),(l[j]'(by omega)).id<l[i].id
def Ab(l:List Upl):Prop:=l.length≤10∧∀ i,D2 l i
def smL(l:List Upl):Prop:=l.length≤1000∧∀ x∈l,smU x
def Ms(l:List Upl)(i:Nat)(x:Nat):Prop:=(i=0∧x=0)∨∃ j,∃ h:j<l.length,j+1=i∧x=l[j].id
theorem Fg{l:List Upl}{i:Nat}(h:∀ j,j<i→D2 l j)(k:D2 l i):∀ j,j<i+1→D2 l j:=fun j hj=>by
 by_cases e:j=i
 ·subst e;exact k
 ·exact h j (by omega)
theorem G7{l:List Upl}(h:∀ j,j<l.length→D2 l j):∀ i,D2 l i:=fun i hi=>h i hi hi
theorem Kr{l:List Upl}{i:Nat}(h:i<l.length):Ms l (i+1) l[i].id:=.inr ⟨i,h,rfl,rfl⟩
theorem Mc{u:Upl}(h:DF u):1≤u.id∧u.id≤281474976710655:=by
 have:=h.1
 rw [Cl,Bool.and_eq_true] at this
 exact Cx.1 this.1
theorem Kq{l:List Upl}{i:Nat}{x:Nat}(h:i<l.length)(hx:Ms l i x)(hm:DF l[i])(hn:¬ l[i].id≤x):D2 l i:=fun _=>by
 refine⟨hm,fun j hj=>?_⟩
 rcases hx with⟨h0,-⟩ | ⟨j',hj',e,rfl⟩
 ·omega
 ·obtain rfl:j'=j:=by omega
  omega
theorem Mr{l:List Upl}{i:Nat}{x:Nat}(h:i<l.length)(hx:Ms l i x)(hm:DF l[i])(hn:l[i].id≤x):¬ D2 l i:=fun s=>by
 obtain⟨-,s2⟩:=s h
 rcases hx with⟨h0,rfl⟩ | ⟨j',hj',e,rfl⟩
 ·have:=(Mc hm).1
  omega
 ·have:=s2 j' e
  omega
def Nj(R:Bool):Int:=if R then 0 else 1
theorem CJ(l:List Upl)(v:Value)(w:World)(R:Bool)(hR:Chk (Ab l) R)(hs:smL l)(ht:Upls w w.heap.size v l):
  Calls Tryz.prog 47 #[v] w fun e w'=>e=.returned (.int .i64 (Nj R))∧Q w w':=by
 have HT:=AC ht
 have HR:=AC hR
 have HS:=AC hs
 have hl:=hs.1
 obtain⟨A,c,rfl⟩:=ht.form
 clear ht hR hs
 by_cases h10:l.length≤10
 ·have h10':¬ (10:Int)<(l.length:Int):=by omega
  go_enter Tryz.func47,Tryz.ntmps47
  go_wp2_with fail
  go_loopw [3,5,11] (fun LA _ I wr=>∃ i x:Nat,i≤l.length∧I=.int .i64 i∧LA=.int .u64 (x:Nat)∧Hid (Ms l i x)∧Q w wr∧Hid (∀ j,j<i→D2 l j)) (fun _ _ I _=>l.length - (intOf I).toNat)
  case atStart=>exact⟨0,0,Nat.zero_le _,rfl,rfl,AC (.inl ⟨rfl,rfl⟩),Q.refl _,AC (fun j h=>by omega)⟩
  case round=>
   obtain⟨i,x,hil,rfl,rfl,HL,q,HK⟩:=hrel
   by_cases hlt:i<l.length
   ·obtain⟨a,c',hv,ha,A2,c2,hps,hat⟩:=HT.out.pick i hlt
    injection hv with e1 e2 e3
    subst e1 e3
    obtain⟨c0,c1,d2⟩:=hat _ q
    clear hat e2
    have hilt:(i:Int)<(l.length:Int):=by omega
    have NO1:¬ DF l[i]→R=false:=fun h=>HR.out.no fun o=>h (o.2 i hlt).1
    have NO2:DF l[i]→l[i].id≤x→R=false:=fun h1 h2=>HR.out.no fun o=>Mr hlt HL.out h1 h2 (o.2 i)
    have YES:DF l[i]→¬ l[i].id≤x→∀ j,j<i+1→D2 l j:=fun h1 h2=>Fg HK.out (Kq hlt HL.out h1 h2)
    have NX:Ms l (i+1) l[i].id:=Kr hlt
    have hsm:=HS.out.2 _ (List.getElem_mem hlt)
    obtain⟨p,hp⟩:∃ p,p=l[i]:=⟨_,rfl⟩
    rw [← hp] at c0 c1 d2 YES NO1 NO2 NX hsm hps
    have NX:=AC NX
    clear hp
    obtain⟨C,hC⟩:=Bw (DF p)
    have M:Hid (∀ b,Q w b→Calls Tryz.prog 95 #[upl p (.slice A2 p.L.length c2)] b fun e w'=>e=.returned (.bool C)∧Q b w'):=AC fun b qb=>JU p _ b C hC hsm (hps.on qb)
    rw [upl] at M
    obtain⟨n,hn⟩:∃ n,p.L.length=n:=⟨_,rfl⟩
    rw [hn] at d2 M
    have q3:=q.alloc (.cells #[.int .u64 (p.id:Nat),.string p.key,.slice A2 n c2] 107)
    clear hn hps hsm
    rcases hC with⟨rfl,hm⟩ | ⟨rfl,hm⟩
    ·by_cases hle:p.id≤x
     ·have HV:=AC (NO2 hm hle)
      have hle':(p.id:Int)≤(x:Int):=by omega
      clear YES NO1 NO2 hm
      go_wp2_with fail
      refine(M.out _ q3).mono ?_
      rintro e w4 ⟨rfl,q4⟩
      obtain⟨d0,d1,d2⟩:=Bf q4
      go_wp2
      go_ret
      exact⟨by rw [HV.out];rfl,q3.trans q4⟩
     ·have HK2:=AC (YES hm hle)
      have hle':¬ (p.id:Int)≤(x:Int):=by omega
      clear YES NO1 NO2 hm
      go_wp2_with fail
      refine(M.out _ q3).mono ?_
      rintro e w4 ⟨rfl,q4⟩
      obtain⟨d0,d1,d2⟩:=Bf q4
      go_wp2
      go_roundw
      case rel=>exact⟨i+1,p.id,by omega,by go_num,rfl,NX,q3.trans q4,HK2⟩
      case measure=>simp [intOf];omega
    ·have HV:=AC (NO1 hm)
     clear YES NO1 NO2 hm
     go_wp2_with fail
     refine(M.out _ q3).mono ?_
     rintro e w4 ⟨rfl,q4⟩
     go_wp2
     go_ret
     exact⟨by rw [HV.out];rfl,q3.trans q4⟩
   ·have HV:=AC (HR.out.yes ⟨h10,G7 fun j h=>HK.out j (by omega)⟩)
    have hilt:¬ (i:Int)<(l.length:Int):=by omega
    go_wp2
    go_ret
    exact⟨by rw [HV.out];rfl,q⟩
 ·have h10':(10:Int)<(l.length:Int):=by omega
  have HV:=AC (HR.out.no (fun o=>h10 o.1))
  go_enter Tryz.func47,Tryz.ntmps47
  go_wp2
  go_ret
  exact⟨by rw [HV.out];rfl,Q.refl _⟩
theorem Eg(l:List Upl)(v:Value)(w:World)(R:Bool)(hR:Chk (Ab l) R)(hs:smL l)(ht:Upls w w.heap.size v l):
  Calls Tryz.prog 52 #[v] w fun e w'=>e=.returned (.bool R)∧Q w w':=by
 have HT:=AC ht
 have HR:=AC hR
 have HS:=AC hs
 have hl:=hs.1
 obtain⟨A,c,rfl⟩:=ht.form
 clear ht hR hs
 go_enter Tryz.func52,Tryz.ntmps52
 go_wp2_with fail
 go_loopw [3] (fun I wr=>∃ i:Nat,i≤l.length∧I=.int .i64 i∧Q w wr∧Hid (∀ j,j<i→D2 l j)) (fun I _=>l.length - (intOf I).toNat)
 case atStart=>exact⟨0,Nat.zero_le _,rfl,Q.refl _,AC (fun j h=>by omega)⟩
 case round=>
  obtain⟨i,hil,rfl,q0,HK⟩:=hrel
  by_cases hlt:i<l.length
  ·obtain⟨a,c',hv,ha,A2,c2,hps,hat⟩:=HT.out.pick i hlt
   injection hv with e1 e2 e3
   subst e1 e3
   clear e2
   have hilt:(i:Int)<(l.length:Int):=by omega
   have NO1:¬ DF l[i]→R=false:=fun h=>HR.out.no fun o=>h (o.2 i hlt).1
   have NO2:∀ j (hj:j+1=i),l[i].id≤(l[j]'(by omega)).id→R=false:=fun j hj h2=>HR.out.no fun o=>by have:=(o.2 i hlt).2 j hj;omega
   have YES:DF l[i]→(∀ j (hj:j+1=i),(l[j]'(by omega)).id<l[i].id)→∀ j,j<i+1→D2 l j:=fun h1 h2=>Fg HK.out fun _=>⟨h1,h2⟩
   have hsm:=HS.out.2 _ (List.getElem_mem hlt)
   obtain⟨p,hp⟩:∃ p,p=l[i]:=⟨_,rfl⟩
   rw [← hp] at hat hps hsm
   simp only [← hp] at NO1 NO2 YES
   have HP:=AC hp
   clear hp
   obtain⟨C,hC⟩:=Bw (DF p)
   have MK:Hid (∀ b,Q w b→Calls Tryz.prog 103 #[upl p (.slice A2 p.L.length c2)] b fun e w'=>e=.returned (.bool C)∧Q b w'):=AC fun b qb=>He p _ b C hC hsm (hps.on qb)
   rw [upl] at MK
   obtain⟨n,hn⟩:∃ n,p.L.length=n:=⟨_,rfl⟩
   rw [hn] at MK
   obtain⟨x,hx⟩:∃ x,x=p.id:=⟨_,rfl⟩
   obtain⟨k,hk⟩:∃ k,k=p.key:=⟨_,rfl⟩
   have HAT:Hid (∀ b,Q w b→b.cell? (a.add (i*3))=some (.int .u64 (x:Nat))∧b.cell? ⟨(a.add (i*3)).block,(a.add (i*3)).off+1,none⟩=some (.string k)∧b.cell? ⟨(a.add (i*3)).block,(a.add (i*3)).off+2,none⟩=some (.slice A2 n c2)):=AC (fun b q=>by rw [← hn,hx,hk];exact hat b q)
   rw [← hx,← hk] at MK
   rw [← hx] at NO2 YES
   have HX:=AC hx
   clear hat hn hps hsm hx hk
   rcases hC with⟨rfl,hm⟩ | ⟨rfl,hm⟩
   ·by_cases hi0:i=0
    ·have HK2:=AC (YES hm (fun j hj=>by omega))
     have hi1:¬ (0:Int)<(i:Int):=by omega
     clear NO1 NO2 YES hm hi0
     have KS:Hid (∀ b,Q w b→(fun w'=>w'.cell? (a.add (i*3))=some (.int .u64 (x:Nat))∧w'.cell? ⟨(a.add (i*3)).block,(a.add (i*3)).off+1,none⟩=some (.string k)∧w'.cell? ⟨(a.add (i*3)).block,(a.add (i*3)).off+2,none⟩=some (.slice A2 n c2)∧Q w w') b):=AC (by
      intro b q
      obtain⟨c0,c1,d2⟩:=HAT.out b q
      exact⟨c0,c1,d2,q⟩)
     have M1:Hid (∀ b,(fun w'=>w'.cell? (a.add (i*3))=some (.int .u64 (x:Nat))∧w'.cell? ⟨(a.add (i*3)).block,(a.add (i*3)).off+1,none⟩=some (.string k)∧w'.cell? ⟨(a.add (i*3)).block,(a.add (i*3)).off+2,none⟩=some (.slice A2 n c2)∧Q w w') b→Calls Tryz.prog 103 #[.agg #[.int .u64 (x:Nat),.string k,.slice A2 n c2]] b fun e w'=>e=.returned (.bool true)∧(fun w'=>w'.cell? (a.add (i*3))=some (.int .u64 (x:Nat))∧w'.cell? ⟨(a.add (i*3)).block,(a.add (i*3)).off+1,none⟩=some (.string k)∧w'.cell? ⟨(a.add (i*3)).block,(a.add (i*3)).off+2,none⟩=some (.slice A2 n c2)∧Q w w') w'):=AC (by
      intro b h
      refine(MK.out b h.2.2.2).mono ?_
      rintro e w' ⟨rfl,q'⟩
      exact⟨rfl,KS.out _ (Q.trans h.2.2.2 q')⟩)
     go_wp2_with fail
     refine wp_region_held_drew (S:=(fun w'=>w'.cell? (a.add (i*3))=some (.int .u64 (x:Nat))∧w'.cell? ⟨(a.add (i*3)).block,(a.add (i*3)).off+1,none⟩=some (.string k)∧w'.cell? ⟨(a.add (i*3)).block,(a.add (i*3)).off+2,none⟩=some (.slice A2 n c2)∧Q w w')) (by kernel_rfl) (KS.out _ q0.drew) (fun hHeld=>?_)
     refine tkV 0 ?_
     refine tkV 1 ?_
     refine tkV 2 ?_
     refine tkV 3 ?_
     refine aR [4] ?_
     refine aC rfl (fun K hK=>?_) aN
     go_simp
     go_at_call 103
     refine(M1.out _ (by assumption)).mono ?_
     rintro e w' ⟨rfl,hS⟩
     refine hK.out _ _ hS (fun hHeld=>?_)
     clear hK K
     refine pg ?_
     refine tkV 5 ?_
     refine tkV 6 ?_
     refine tkV 7 ?_
     refine tkB 8 (.bool false) ?_
     refine tkV 9 ?_
     refine tkU 10 ?_
     refine tkU 11 ?_
     refine tkU 12 ?_
     refine tkU 13 ?_
     refine tkU 14 ?_
     refine tkU 15 ?_
     refine tkU 16 ?_
     refine tkU 17 ?_
     refine tkU 18 ?_
     refine tkU 19 ?_
     refine tkU 20 ?_
     refine tkU 21 ?_
     refine tkV 22 ?_
     refine tkV 23 ?_
     refine wpAnyH_done (by kernel_rfl) ?_ _
     have q:=hS.2.2.2
     clear KS M1
     go_wp2
     go_roundw
     case rel=>exact⟨i+1,by omega,by go_num,q,HK2⟩
     case measure=>simp [intOf];omega
    ·obtain⟨j,hj⟩:∃ j,j+1=i:=⟨i - 1,by omega⟩
     have hjl:j<l.length:=by omega
     obtain⟨a',c3,hv,-,A3,c4,-,hbt⟩:=HT.out.pick j hjl
     injection hv with e1 e2 e3
     injection e1 with e1
     subst e1
     obtain⟨y,hy⟩:∃ y,y=(l[j]'hjl).id:=⟨_,rfl⟩
     have HBT:Hid (∀ b,Q w b→b.cell? (a.add (j*3))=some (.int .u64 (y:Nat))∧True):=AC (fun b q=>⟨by rw [hy];exact(hbt b q).1,trivial⟩)
     have HY:=AC hy
     have HJ:=AC hj
     have hi1:(0:Int)<(i:Int):=by omega
     have hi2:(i:Int) - 1=(j:Int):=by omega
     have wj:IntKind.i64.wrap (j:Int)=(j:Int):=by rw [IntKind.wrap_i64];omega
     have hj1:(j:Int)<(l.length:Int):=by omega
     by_cases hle:x≤y
     ·have HV:=AC (NO2 j hj (by rw [← hy];exact hle))
      have hle':(x:Int)≤(y:Int):=by omega
      clear NO1 NO2 YES hm hi0 hy hbt hj e2 e3
      have KS:Hid (∀ b,Q w b→(fun w'=>w'.cell? (a.add (i*3))=some (.int .u64 (x:Nat))∧w'.cell? ⟨(a.add (i*3)).block,(a.add (i*3)).off+1,none⟩=some (.string k)∧w'.cell? ⟨(a.add (i*3)).block,(a.add (i*3)).off+2,none⟩=some (.slice A2 n c2)∧w'.cell? (a.add (j*3))=some (.int .u64 (y:Nat))∧Q w w') b):=AC (by
       intro b q
       obtain⟨c0,c1,d2⟩:=HAT.out b q
       obtain⟨d0,-⟩:=HBT.out b q
       exact⟨c0,c1,d2,d0,q⟩)
      have M1:Hid (∀ b,(fun w'=>w'.cell? (a.add (i*3))=some (.int .u64 (x:Nat))∧w'.cell? ⟨(a.add (i*3)).block,(a.add (i*3)).off+1,none⟩=some (.string k)∧w'.cell? ⟨(a.add (i*3)).block,(a.add (i*3)).off+2,none⟩=some (.slice A2 n c2)∧w'.cell? (a.add (j*3))=some (.int .u64 (y:Nat))∧Q w w') b→Calls Tryz.prog 103 #[.agg #[.int .u64 (x:Nat),.string k,.slice A2 n c2]] b fun e w'=>e=.returned (.bool true)∧(fun w'=>w'.cell? (a.add (i*3))=some (.int .u64 (x:Nat))∧w'.cell? ⟨(a.add (i*3)).block,(a.add (i*3)).off+1,none⟩=some (.string k)∧w'.cell? ⟨(a.add (i*3)).block,(a.add (i*3)).off+2,none⟩=some (.slice A2 n c2)∧w'.cell? (a.add (j*3))=some (.int .u64 (y:Nat))∧Q w w') w'):=AC (by
       intro b h
       refine(MK.out b h.2.2.2.2).mono ?_
       rintro e w' ⟨rfl,q'⟩
       exact⟨rfl,KS.out _ (Q.trans h.2.2.2.2 q')⟩)
      go_wp2_with fail
      refine wp_region_held_drew (S:=(fun w'=>w'.cell? (a.add (i*3))=some (.int .u64 (x:Nat))∧w'.cell? ⟨(a.add (i*3)).block,(a.add (i*3)).off+1,none⟩=some (.string k)∧w'.cell? ⟨(a.add (i*3)).block,(a.add (i*3)).off+2,none⟩=some (.slice A2 n c2)∧w'.cell? (a.add (j*3))=some (.int .u64 (y:Nat))∧Q w w')) (by kernel_rfl) (KS.out _ q0.drew) (fun hHeld=>?_)
      refine tkV 0 ?_
      refine tkV 1 ?_
      refine tkV 2 ?_
      refine tkV 3 ?_
      refine aR [4] ?_
      refine aC rfl (fun K hK=>?_) aN
      go_simp
      go_at_call 103
      refine(M1.out _ (by assumption)).mono ?_
      rintro e w' ⟨rfl,hS⟩
      refine hK.out _ _ hS (fun hHeld=>?_)
      clear hK K
      refine pg ?_
      refine tkV 5 ?_
      refine tkV 6 ?_
      refine tkV 7 ?_
      refine tkB 8 (.bool true) ?_
      refine tkV 9 ?_
      refine tkV 10 ?_
      refine tkV 11 ?_
      refine tkV 12 ?_
      refine tkV 13 ?_
      refine tkV 14 ?_
      refine tkV 15 ?_
      refine tkV 16 ?_
      refine tkV 17 ?_
      refine tkV 18 ?_
      refine tkV 19 ?_
      refine tkV 20 ?_
      refine tkV 21 ?_
      refine tkV 22 ?_
      refine tkV 23 ?_
      refine wpAnyH_done (by kernel_rfl) ?_ _
      have q:=hS.2.2.2.2
      clear KS M1
      go_wp2
      go_ret
      exact⟨AE (by rw [HV.out]),q⟩
     ·have HK2:=AC (YES hm (fun j' hj'=>by obtain rfl:j'=j:=by{have:=HJ.out;omega};rw [← HY.out];omega))
      have hle':¬ (x:Int)≤(y:Int):=by omega
      clear NO1 NO2 YES hm hi0 hy hbt hj e2 e3
      have KS:Hid (∀ b,Q w b→(fun w'=>w'.cell? (a.add (i*3))=some (.int .u64 (x:Nat))∧w'.cell? ⟨(a.add (i*3)).block,(a.add (i*3)).off+1,none⟩=some (.string k)∧w'.cell? ⟨(a.add (i*3)).block,(a.add (i*3)).off+2,none⟩=some (.slice A2 n c2)∧w'.cell? (a.add (j*3))=some (.int .u64 (y:Nat))∧Q w w') b):=AC (by
       intro b q
       obtain⟨c0,c1,d2⟩:=HAT.out b q
       obtain⟨d0,-⟩:=HBT.out b q
       exact⟨c0,c1,d2,d0,q⟩)
      have M1:Hid (∀ b,(fun w'=>w'.cell? (a.add (i*3))=some (.int .u64 (x:Nat))∧w'.cell? ⟨(a.add (i*3)).block,(a.add (i*3)).off+1,none⟩=some (.string k)∧w'.cell? ⟨(a.add (i*3)).block,(a.add (i*3)).off+2,none⟩=some (.slice A2 n c2)∧w'.cell? (a.add (j*3))=some (.int .u64 (y:Nat))∧Q w w') b→Calls Tryz.prog 103 #[.agg #[.int .u64 (x:Nat),.string k,.slice A2 n c2]] b fun e w'=>e=.returned (.bool true)∧(fun w'=>w'.cell? (a.add (i*3))=some (.int .u64 (x:Nat))∧w'.cell? ⟨(a.add (i*3)).block,(a.add (i*3)).off+1,none⟩=some (.string k)∧w'.cell? ⟨(a.add (i*3)).block,(a.add (i*3)).off+2,none⟩=some (.slice A2 n c2)∧w'.cell? (a.add (j*3))=some (.int .u64 (y:Nat))∧Q w w') w'):=AC (by
       intro b h
       refine(MK.out b h.2.2.2.2).mono ?_
       rintro e w' ⟨rfl,q'⟩
       exact⟨rfl,KS.out _ (Q.trans h.2.2.2.2 q')⟩)
      go_wp2_with fail
      refine wp_region_held_drew (S:=(fun w'=>w'.cell? (a.add (i*3))=some (.int .u64 (x:Nat))∧w'.cell? ⟨(a.add (i*3)).block,(a.add (i*3)).off+1,none⟩=some (.string k)∧w'.cell? ⟨(a.add (i*3)).block,(a.add (i*3)).off+2,none⟩=some (.slice A2 n c2)∧w'.cell? (a.add (j*3))=some (.int .u64 (y:Nat))∧Q w w')) (by kernel_rfl) (KS.out _ q0.drew) (fun hHeld=>?_)
      refine tkV 0 ?_
      refine tkV 1 ?_
      refine tkV 2 ?_
      refine tkV 3 ?_
      refine aR [4] ?_
      refine aC rfl (fun K hK=>?_) aN
      go_simp
      go_at_call 103
      refine(M1.out _ (by assumption)).mono ?_
      rintro e w' ⟨rfl,hS⟩
      refine hK.out _ _ hS (fun hHeld=>?_)
      clear hK K
      refine pg ?_
      refine tkV 5 ?_
      refine tkV 6 ?_
      refine tkV 7 ?_
      refine tkB 8 (.bool true) ?_
      refine tkV 9 ?_
      refine tkV 10 ?_
      refine tkV 11 ?_
      refine tkV 12 ?_
      refine tkV 13 ?_
      refine tkV 14 ?_
      refine tkV 15 ?_
      refine tkV 16 ?_
      refine tkV 17 ?_
      refine tkV 18 ?_
      refine tkV 19 ?_
      refine tkV 20 ?_
      refine tkV 21 ?_
      refine tkV 22 ?_
      refine tkV 23 ?_
      refine wpAnyH_done (by kernel_rfl) ?_ _
      have q:=hS.2.2.2.2
      clear KS M1
      go_wp2
      go_roundw
      case rel=>exact⟨i+1,by omega,by go_num,q,HK2⟩
      case measure=>simp [intOf];omega
   ·have HV:=AC (NO1 hm)
    clear NO1 NO2 YES hm
    have KS:Hid (∀ b,Q w b→(fun w'=>w'.cell? (a.add (i*3))=some (.int .u64 (x:Nat))∧w'.cell? ⟨(a.add (i*3)).block,(a.add (i*3)).off+1,none⟩=some (.string k)∧w'.cell? ⟨(a.add (i*3)).block,(a.add (i*3)).off+2,none⟩=some (.slice A2 n c2)∧Q w w') b):=AC (by
     intro b q
     obtain⟨c0,c1,d2⟩:=HAT.out b q
     exact⟨c0,c1,d2,q⟩)
    have M1:Hid (∀ b,(fun w'=>w'.cell? (a.add (i*3))=some (.int .u64 (x:Nat))∧w'.cell? ⟨(a.add (i*3)).block,(a.add (i*3)).off+1,none⟩=some (.string k)∧w'.cell? ⟨(a.add (i*3)).block,(a.add (i*3)).off+2,none⟩=some (.slice A2 n c2)∧Q w w') b→Calls Tryz.prog 103 #[.agg #[.int .u64 (x:Nat),.string k,.slice A2 n c2]] b fun e w'=>e=.returned (.bool false)∧(fun w'=>w'.cell? (a.add (i*3))=some (.int .u64 (x:Nat))∧w'.cell? ⟨(a.add (i*3)).block,(a.add (i*3)).off+1,none⟩=some (.string k)∧w'.cell? ⟨(a.add (i*3)).block,(a.add (i*3)).off+2,none⟩=some (.slice A2 n c2)∧Q w w') w'):=AC (by
     intro b h
     refine(MK.out b h.2.2.2).mono ?_
     rintro e w' ⟨rfl,q'⟩
     exact⟨rfl,KS.out _ (Q.trans h.2.2.2 q')⟩)
    go_wp2_with fail
    refine wp_region_held_drew (S:=(fun w'=>w'.cell? (a.add (i*3))=some (.int .u64 (x:Nat))∧w'.cell? ⟨(a.add (i*3)).block,(a.add (i*3)).off+1,none⟩=some (.string k)∧w'.cell? ⟨(a.add (i*3)).block,(a.add (i*3)).off+2,none⟩=some (.slice A2 n c2)∧Q w w')) (by kernel_rfl) (KS.out _ q0.drew) (fun hHeld=>?_)
    refine tkV 0 ?_
    refine tkV 1 ?_
    refine tkV 2 ?_
    refine tkV 3 ?_
    refine aR [4] ?_
    refine aC rfl (fun K hK=>?_) aN
    go_simp
    go_at_call 103
    refine(M1.out _ (by assumption)).mono ?_
    rintro e w' ⟨rfl,hS⟩
    refine hK.out _ _ hS (fun hHeld=>?_)
    clear hK K
    refine pg ?_
    refine tkV 5 ?_
    refine tkV 6 ?_
    refine tkU 7 ?_
    refine tkU 8 ?_
    refine tkU 9 ?_
    refine tkU 10 ?_
    refine tkU 11 ?_
    refine tkU 12 ?_
    refine tkU 13 ?_
    refine tkU 14 ?_
    refine tkU 15 ?_
    refine tkU 16 ?_
    refine tkU 17 ?_
    refine tkU 18 ?_
    refine tkU 19 ?_
    refine tkU 20 ?_
    refine tkU 21 ?_
    refine tkU 22 ?_
    refine tkV 23 ?_
    refine wpAnyH_done (by kernel_rfl) ?_ _
    have q:=hS.2.2.2
    clear KS M1
    go_wp2
    go_ret
    exact⟨AE (by rw [HV.out]),q⟩
  ·have hilt:¬ (i:Int)<(l.length:Int):=by omega
   by_cases h10:l.length≤10
   ·have HV:=AC (HR.out.yes ⟨h10,G7 fun j h=>HK.out j (by omega)⟩)
    have h10':(l.length:Int)≤10:=by omega
    go_wp2
    go_ret
    exact⟨AE (by rw [HV.out];try (simp;try omega)),q0⟩
   ·have HV:=AC (HR.out.no (fun o=>h10 o.1))
    have h10':¬ (l.length:Int)≤10:=by omega
    go_wp2
    go_ret
    exact⟨AE (by rw [HV.out];try (simp;try omega)),q0⟩
end
section
open Go.ChangeShapes Go.WideShapes Go.ChangeAt Go.RowKit
def Bx(W:World)(B:Nat)(t:TypeId)(cs:Array Value):Prop:=W.heap[B]?=some (.cells cs t (0,0))
theorem Bx.lt{W:World}{B:Nat}{t:TypeId}{cs:Array Value}(h:Bx W B t cs):B<W.heap.size:=(Array.getElem?_eq_some_iff.1 h).1
theorem Bx.cell{W:World}{B:Nat}{t:TypeId}{cs:Array Value}(h:Bx W B t cs)(i:Nat):W.cell? ⟨B,i,none⟩=cs[i]?:=by simp [World.cell?,show W.heap[B]?=_ from h]
theorem Bx.frozen{W:World}{B:Nat}{t:TypeId}{cs:Array Value}(h:Bx W B t cs)(i:Nat):W.frozen? ⟨B,i,none⟩=false:=by simp [World.frozen?,show W.heap[B]?=_ from h]
theorem Bx.new(W:World)(t:TypeId)(cs:Array Value):Bx (W.alloc (.cells cs t)) W.heap.size t cs:=heap_alloc_new W _
theorem Bx.same{W W':World}{B:Nat}{t:TypeId}{cs:Array Value}(h:Bx W B t cs)(e:W'.heap[B]?=W.heap[B]?):Bx W' B t cs:=e.trans h
theorem Bx.on{W W':World}{B:Nat}{t:TypeId}{cs:Array Value}(h:Bx W B t cs)(q:Q W W'):Bx W' B t cs:=(q.block B h.lt).trans h
theorem Bx.alloc{W:World}{B:Nat}{t:TypeId}{cs:Array Value}(h:Bx W B t cs)(o:Obj):Bx (W.alloc o) B t cs:=h.on ((Q.refl _).alloc o)
theorem Bx.set{W:World}{B:Nat}{t:TypeId}{cs:Array Value}(h:Bx W B t cs)(i:Nat)(u:Value):Bx (W.setCell ⟨B,i,none⟩ u) B t (cs.setIfInBounds i u):=by
 obtain⟨hlt,hk⟩:=Array.getElem?_eq_some_iff.1 h
 show(W.heap.modify B _)[B]?=_
 rw [Array.getElem?_eq_getElem (by rw [Array.size_modify];exact hlt),Array.getElem_modify_self,hk]
 rfl
theorem Jd(W:World)(B i:Nat)(u:Value){k:Nat}(h:k≠B):(W.setCell ⟨B,i,none⟩ u).heap[k]?=W.heap[k]?:=Below.heap_setCell _ _ _ k (by simpa using h)
theorem Bx.other{W:World}{B B2:Nat}{t:TypeId}{cs:Array Value}(h:Bx W B t cs)(k:B≠B2)(i:Nat)(u:Value):Bx (W.setCell ⟨B2,i,none⟩ u) B t cs:=(Jd W B2 i u k).trans h
theorem Ad(W:World)(b i:Nat)(v:Value):W.grownBy (W.setCell ⟨b,i,none⟩ v) (some b):=
 ⟨rfl,rfl,rfl,by simp,fun k _ hk=>Jd W b i v (fun e=>hk (by rw [e]))⟩
theorem AS{w:World}{base size n:Nat}{e:TypeId}{v:Value}{xs:List Value}(h:w.ownsRow base e size v n xs){b i:Nat}{u:Value}(hb:b<base):(w.setCell ⟨b,i,none⟩ u).ownsRow base e size v n xs:=by
 refine World.ownsRow.kept h (Ad w b i u) ?_
 cases e:v.ownBlock with
 | none=>exact .inl rfl
 | some k=>refine .inr fun e2=>?_;injection e2 with e2;have:=(World.ownsRow.lt h k e).1;omega
end
end Go.Proofs.YtjjlbbfhmpbneaaGreat
