/-
  Contract of the document's May.
-/
import Derived.Test.YtjjlbbfhmpbneaaGreatLi
import Derived.Deep.RegionHeld3
namespace Go.Proofs.YtjjlbbfhmpbneaaGreat
open AllReadyH renaming cons → aC, nil → aN
open Lib renaming hid → AC
set_option maxHeartbeats 16000000
set_option maxRecDepth 100000
set_option linter.unusedVariables false
set_option linter.unusedSimpArgs false
section
open Go.ChangeShapes Go.WideShapes Go.ChangeAt Go.RowKit
theorem Eh(l:List Ent)(v:Value)(w:World)(R:Bool)(hR:Sl l R)(hs:By l)(ht:Ents w w.heap.size v l):
  Calls Tryz.prog 51 #[v] w fun e w'=>e=.returned (.bool R)∧Q w w':=by
 have HT:=AC ht
 have HR:=AC hR
 have HS:=AC hs
 have hl:=hs.1
 obtain⟨A,c,rfl⟩:=ht.form
 clear ht hR hs
 go_enter Tryz.func51,Tryz.ntmps51
 go_wp2_with fail
 go_loopw [3] (fun I wr=>∃ i:Nat,i≤l.length∧I=.int .i64 i∧Q w wr∧Hid (∀ j,j<i→IQ l j)) (fun I _=>l.length - (intOf I).toNat)
 case atStart=>exact⟨0,Nat.zero_le _,rfl,Q.refl _,AC (fun j h=>by omega)⟩
 case round=>
  obtain⟨i,hil,rfl,q0,HK⟩:=hrel
  by_cases hlt:i<l.length
  ·obtain⟨a,c',hv,ha,A2,c2,hvs,hat⟩:=HT.out.pick i hlt
   injection hv with e1 e2 e3
   subst e1 e3
   have hsm:=HS.out.2 _ (List.getElem_mem hlt)
   have hilt:(i:Int)<(l.length:Int):=by omega
   obtain⟨e,he⟩:∃ e,e=l[i]:=⟨_,rfl⟩
   rw [← he] at hvs hat hsm
   have HE:=AC he
   clear he
   obtain⟨x,L⟩:=e
   simp only at hvs hat hsm
   have NO:(BD 1 60 ko x=true→0<L.length→okP L→(∀ j (hj:j+1=i),ltB (l[j]'(by omega)).key x=true)→False)→R=false:=fun h=>Gj HR.out fun o=>by
    obtain⟨h1,h2,h3,h4⟩:=o.2 i hlt
    rw [← HE.out] at h1 h2 h3
    refine h h1 h2 h3 fun j hj=>?_
    have:=h4 j hj
    rwa [← HE.out] at this
   have YES:BD 1 60 ko x=true→0<L.length→okP L→(∀ j (hj:j+1=i),ltB (l[j]'(by omega)).key x=true)→∀ j,j<i+1→IQ l j:=fun h1 h2 h3 h4 j hj=>by
    by_cases e:j=i
    ·subst e
     intro h
     refine⟨by rw [← HE.out];exact h1,by rw [← HE.out];exact h2,by rw [← HE.out];exact h3,fun j' hj'=>?_⟩
     have:=h4 j' hj'
     rw [← HE.out];exact this
    ·exact HK.out j (by omega)
   obtain⟨n,hn⟩:∃ n,L.length=n:=⟨_,rfl⟩
   have HN:=AC hn
   have hvs:Vers w w.heap.size (.slice A2 n c2) L:=by rw [← hn];exact hvs
   have HAT:Hid (∀ d,Q w d→d.cell? (a.add (i*2))=some (.string x)∧d.cell? ⟨(a.add (i*2)).block,(a.add (i*2)).off+1,none⟩=some (.slice A2 n c2)):=AC (by rw [← hn];exact hat)
   have hl2:=hsm.2.1
   rw [hn] at NO YES
   clear hn hat
   have MK:=AC fun d=>Bn x d hsm.1
   cases hk:BD 1 60 ko x with
   | false=>
     rw [hk] at MK
     have HV:=AC (NO fun h=>by rw [hk] at h;simp at h)
     clear NO YES hk
     have KS:Hid (∀ b,Q w b→(fun w'=>w'.cell? (a.add (i*2))=some (.string x)∧w'.cell? ⟨(a.add (i*2)).block,(a.add (i*2)).off+1,none⟩=some (.slice A2 n c2)∧Q w w') b):=AC (by
      intro b q
      obtain⟨c0,c1⟩:=HAT.out b q
      exact⟨c0,c1,q⟩)
     have M1:Hid (∀ b,(fun w'=>w'.cell? (a.add (i*2))=some (.string x)∧w'.cell? ⟨(a.add (i*2)).block,(a.add (i*2)).off+1,none⟩=some (.slice A2 n c2)∧Q w w') b→Calls Tryz.prog 80 #[.string x] b fun e w'=>e=.returned (.bool false)∧(fun w'=>w'.cell? (a.add (i*2))=some (.string x)∧w'.cell? ⟨(a.add (i*2)).block,(a.add (i*2)).off+1,none⟩=some (.slice A2 n c2)∧Q w w') w'):=AC (by
      intro b h
      refine(MK.out b).mono ?_
      rintro e w' ⟨rfl,rfl⟩
      exact⟨rfl,h⟩)
     have SN:Hid ((fun w'=>w'.cell? (a.add (i*2))=some (.string x)∧w'.cell? ⟨(a.add (i*2)).block,(a.add (i*2)).off+1,none⟩=some (.slice A2 n c2)∧Q w w') wr.drew):=AC (KS.out _ q0.drew)
     go_wp2_with fail
     refine wp_region_held_drew (S:=(fun w'=>w'.cell? (a.add (i*2))=some (.string x)∧w'.cell? ⟨(a.add (i*2)).block,(a.add (i*2)).off+1,none⟩=some (.slice A2 n c2)∧Q w w')) (by kernel_rfl) SN.out (fun hHeld=>?_)
     refine tkV 0 ?_
     refine tkV 1 ?_
     refine tkV 2 ?_
     refine tkV 3 ?_
     refine tkV 4 ?_
     refine aR [5] ?_
     refine aC rfl (fun K hK=>?_) aN
     go_simp
     go_at_call 80
     refine(M1.out _ (by assumption)).mono ?_
     rintro e w' ⟨rfl,hS⟩
     refine hK.out _ _ hS (fun hHeld=>?_)
     clear hK K
     refine pg ?_
     refine tkV 6 ?_
     refine tkV 7 ?_
     refine tkU 8 ?_
     refine tkU 9 ?_
     refine tkU 10 ?_
     refine tkU 11 ?_
     refine tkU 12 ?_
     refine tkU 13 ?_
     refine tkU 14 ?_
     refine tkV 15 ?_
     refine tkV 16 ?_
     refine tkU 17 ?_
     refine tkU 18 ?_
     refine tkU 19 ?_
     refine tkU 20 ?_
     refine tkU 21 ?_
     refine tkU 22 ?_
     refine tkU 23 ?_
     refine tkV 24 ?_
     refine tkV 25 ?_
     refine tkU 26 ?_
     refine tkU 27 ?_
     refine tkU 28 ?_
     refine tkU 29 ?_
     refine tkU 30 ?_
     refine tkU 31 ?_
     refine tkU 32 ?_
     refine tkU 33 ?_
     refine tkU 34 ?_
     refine tkU 35 ?_
     refine tkU 36 ?_
     refine tkU 37 ?_
     refine tkU 38 ?_
     refine tkU 39 ?_
     refine tkU 40 ?_
     refine tkU 41 ?_
     refine tkV 42 ?_
     refine wpAnyH_done (by kernel_rfl) ?_ _
     have q:=hS.2.2
     clear KS M1 SN
     go_wp2
     go_ret
     exact⟨AE (by rw [HV.out]),q⟩
   | true=>
     rw [hk] at MK
     by_cases h0:n=0
     ·have HV:=AC (NO fun _ h=>by omega)
      have hne:((n:Int)==0)=true:=by simp [h0]
      clear NO YES hk h0
      have KS:Hid (∀ b,Q w b→(fun w'=>w'.cell? (a.add (i*2))=some (.string x)∧w'.cell? ⟨(a.add (i*2)).block,(a.add (i*2)).off+1,none⟩=some (.slice A2 n c2)∧Q w w') b):=AC (by
       intro b q
       obtain⟨c0,c1⟩:=HAT.out b q
       exact⟨c0,c1,q⟩)
      have M1:Hid (∀ b,(fun w'=>w'.cell? (a.add (i*2))=some (.string x)∧w'.cell? ⟨(a.add (i*2)).block,(a.add (i*2)).off+1,none⟩=some (.slice A2 n c2)∧Q w w') b→Calls Tryz.prog 80 #[.string x] b fun e w'=>e=.returned (.bool true)∧(fun w'=>w'.cell? (a.add (i*2))=some (.string x)∧w'.cell? ⟨(a.add (i*2)).block,(a.add (i*2)).off+1,none⟩=some (.slice A2 n c2)∧Q w w') w'):=AC (by
       intro b h
       refine(MK.out b).mono ?_
       rintro e w' ⟨rfl,rfl⟩
       exact⟨rfl,h⟩)
      have SN:Hid ((fun w'=>w'.cell? (a.add (i*2))=some (.string x)∧w'.cell? ⟨(a.add (i*2)).block,(a.add (i*2)).off+1,none⟩=some (.slice A2 n c2)∧Q w w') wr.drew):=AC (KS.out _ q0.drew)
      go_wp2_with fail
      refine wp_region_held_drew (S:=(fun w'=>w'.cell? (a.add (i*2))=some (.string x)∧w'.cell? ⟨(a.add (i*2)).block,(a.add (i*2)).off+1,none⟩=some (.slice A2 n c2)∧Q w w')) (by kernel_rfl) SN.out (fun hHeld=>?_)
      refine tkV 0 ?_
      refine tkV 1 ?_
      refine tkV 2 ?_
      refine tkV 3 ?_
      refine tkV 4 ?_
      refine aR [5] ?_
      refine aC rfl (fun K hK=>?_) aN
      go_simp
      go_at_call 80
      refine(M1.out _ (by assumption)).mono ?_
      rintro e w' ⟨rfl,hS⟩
      refine hK.out _ _ hS (fun hHeld=>?_)
      clear hK K
      refine pg ?_
      refine tkV 6 ?_
      refine tkV 7 ?_
      refine tkV 8 ?_
      refine tkV 9 ?_
      refine tkV 10 ?_
      refine tkV 11 ?_
      refine tkV 12 ?_
      refine tkV 13 ?_
      refine tkB 14 (.bool true) ?_
      refine tkV 15 ?_
      refine tkV 16 ?_
      refine tkU 17 ?_
      refine tkU 18 ?_
      refine tkU 19 ?_
      refine tkU 20 ?_
      refine tkU 21 ?_
      refine tkU 22 ?_
      refine tkU 23 ?_
      refine tkV 24 ?_
      refine tkV 25 ?_
      refine tkU 26 ?_
      refine tkU 27 ?_
      refine tkU 28 ?_
      refine tkU 29 ?_
      refine tkU 30 ?_
      refine tkU 31 ?_
      refine tkU 32 ?_
      refine tkU 33 ?_
      refine tkU 34 ?_
      refine tkU 35 ?_
      refine tkU 36 ?_
      refine tkU 37 ?_
      refine tkU 38 ?_
      refine tkU 39 ?_
      refine tkU 40 ?_
      refine tkU 41 ?_
      refine tkV 42 ?_
      refine wpAnyH_done (by kernel_rfl) ?_ _
      have q:=hS.2.2
      clear KS M1 SN
      go_wp2
      go_ret
      exact⟨AE (by rw [HV.out]),q⟩
     ·obtain⟨C,hC⟩:=Gi L
      have MC:Hid (∀ b,Q w b→Calls Tryz.prog 102 #[.slice A2 n c2] b fun e w'=>e=.returned (.bool C)∧Q b w'):=AC (fun b q=>AR L _ b C hC hl2 (hvs.on q))
      have hne:((n:Int)==0)=false:=by
       have:¬ (n:Int)=0:=by omega
       simpa using this
      rcases hC with⟨rfl,hok⟩ | ⟨rfl,hno⟩
      ·by_cases hi0:i=0
       ·have HK2:=AC (YES hk (by omega) hok (fun j hj=>by omega))
        have hi1:¬ (0:Int)<(i:Int):=by omega
        clear NO YES hk hvs h0 hi0 hsm hl2
        have KS:Hid (∀ b,Q w b→(fun w'=>w'.cell? (a.add (i*2))=some (.string x)∧w'.cell? ⟨(a.add (i*2)).block,(a.add (i*2)).off+1,none⟩=some (.slice A2 n c2)∧Q w w') b):=AC (by
         intro b q
         obtain⟨c0,c1⟩:=HAT.out b q
         exact⟨c0,c1,q⟩)
        have M1:Hid (∀ b,(fun w'=>w'.cell? (a.add (i*2))=some (.string x)∧w'.cell? ⟨(a.add (i*2)).block,(a.add (i*2)).off+1,none⟩=some (.slice A2 n c2)∧Q w w') b→Calls Tryz.prog 80 #[.string x] b fun e w'=>e=.returned (.bool true)∧(fun w'=>w'.cell? (a.add (i*2))=some (.string x)∧w'.cell? ⟨(a.add (i*2)).block,(a.add (i*2)).off+1,none⟩=some (.slice A2 n c2)∧Q w w') w'):=AC (by
         intro b h
         refine(MK.out b).mono ?_
         rintro e w' ⟨rfl,rfl⟩
         exact⟨rfl,h⟩)
        have M2:Hid (∀ b,(fun w'=>w'.cell? (a.add (i*2))=some (.string x)∧w'.cell? ⟨(a.add (i*2)).block,(a.add (i*2)).off+1,none⟩=some (.slice A2 n c2)∧Q w w') b→Calls Tryz.prog 102 #[.slice A2 n c2] b fun e w'=>e=.returned (.bool true)∧(fun w'=>w'.cell? (a.add (i*2))=some (.string x)∧w'.cell? ⟨(a.add (i*2)).block,(a.add (i*2)).off+1,none⟩=some (.slice A2 n c2)∧Q w w') w'):=AC (by
         intro b h
         refine(MC.out b h.2.2).mono ?_
         rintro e w' ⟨rfl,q'⟩
         exact⟨rfl,KS.out _ (Q.trans h.2.2 q')⟩)
        have SN:Hid ((fun w'=>w'.cell? (a.add (i*2))=some (.string x)∧w'.cell? ⟨(a.add (i*2)).block,(a.add (i*2)).off+1,none⟩=some (.slice A2 n c2)∧Q w w') wr.drew):=AC (KS.out _ q0.drew)
        go_wp2_with fail
        refine wp_region_held_drew (S:=(fun w'=>w'.cell? (a.add (i*2))=some (.string x)∧w'.cell? ⟨(a.add (i*2)).block,(a.add (i*2)).off+1,none⟩=some (.slice A2 n c2)∧Q w w')) (by kernel_rfl) SN.out (fun hHeld=>?_)
        refine tkV 0 ?_
        refine tkV 1 ?_
        refine tkV 2 ?_
        refine tkV 3 ?_
        refine tkV 4 ?_
        refine aR [5] ?_
        refine aC rfl (fun K hK=>?_) aN
        go_simp
        go_at_call 80
        refine(M1.out _ (by assumption)).mono ?_
        rintro e w' ⟨rfl,hS⟩
        refine hK.out _ _ hS (fun hHeld=>?_)
        clear hK K
        refine pg ?_
        refine tkV 6 ?_
        refine tkV 7 ?_
        refine tkV 8 ?_
        refine tkV 9 ?_
        refine tkV 10 ?_
        refine tkV 11 ?_
        refine tkV 12 ?_
        refine tkV 13 ?_
        refine tkB 14 (.bool false) ?_
        refine tkV 15 ?_
        refine tkV 16 ?_
        refine tkV 17 ?_
        refine tkV 18 ?_
        refine tkV 19 ?_
        refine tkV 20 ?_
        refine tkV 21 ?_
        refine aR [22] ?_
        refine aC rfl (fun K hK=>?_) aN
        go_simp
        go_at_call 102
        refine(M2.out _ (by assumption)).mono ?_
        rintro e w' ⟨rfl,hS⟩
        refine hK.out _ _ hS (fun hHeld=>?_)
        clear hK K
        refine pg ?_
        refine tkV 23 ?_
        refine tkV 24 ?_
        refine tkV 25 ?_
        refine tkV 26 ?_
        refine tkB 27 (.bool false) ?_
        refine tkV 28 ?_
        refine tkU 29 ?_
        refine tkU 30 ?_
        refine tkU 31 ?_
        refine tkU 32 ?_
        refine tkU 33 ?_
        refine tkU 34 ?_
        refine tkU 35 ?_
        refine tkU 36 ?_
        refine tkU 37 ?_
        refine tkU 38 ?_
        refine tkU 39 ?_
        refine tkU 40 ?_
        refine tkV 41 ?_
        refine tkV 42 ?_
        refine wpAnyH_done (by kernel_rfl) ?_ _
        have q:=hS.2.2
        clear KS M1 SN
        go_wp2
        go_roundw
        case rel=>exact⟨i+1,by omega,by go_num,q,HK2⟩
        case measure=>simp [intOf];omega
       ·obtain⟨j,hj⟩:∃ j,j+1=i:=⟨i - 1,by omega⟩
        have hjl:j<l.length:=by omega
        obtain⟨a',c3,hv,-,A3,c4,-,hbt⟩:=HT.out.pick j hjl
        injection hv with e1 e2 e3
        injection e1 with e1
        subst e1
        obtain⟨y,hy⟩:∃ y,y=(l[j]'hjl).key:=⟨_,rfl⟩
        rw [← hy] at hbt
        have HBT:=AC hbt
        have HY:=AC hy
        have HJ:=AC hj
        have hi1:(0:Int)<(i:Int):=by omega
        have hi2:(i:Int) - 1=(j:Int):=by omega
        have wj:IntKind.i64.wrap (j:Int)=(j:Int):=by rw [IntKind.wrap_i64];omega
        have hj1:(j:Int)<(l.length:Int):=by omega
        cases hlt2:ltB y x with
        | true=>
          have HK2:=AC (YES hk (by omega) hok (fun j' hj'=>by obtain rfl:j'=j:=by{have:=HJ.out;omega};rw [← HY.out];exact hlt2))
          unfold ltB at hlt2
          clear NO YES hk hvs h0 hi0 hsm hl2 hy hbt hj e2 e3
          have KS:Hid (∀ b,Q w b→(fun w'=>w'.cell? (a.add (i*2))=some (.string x)∧w'.cell? ⟨(a.add (i*2)).block,(a.add (i*2)).off+1,none⟩=some (.slice A2 n c2)∧w'.cell? (a.add (j*2))=some (.string y)∧Q w w') b):=AC (by
           intro b q
           obtain⟨c0,c1⟩:=HAT.out b q
           obtain⟨d0,-⟩:=HBT.out b q
           exact⟨c0,c1,d0,q⟩)
          have M1:Hid (∀ b,(fun w'=>w'.cell? (a.add (i*2))=some (.string x)∧w'.cell? ⟨(a.add (i*2)).block,(a.add (i*2)).off+1,none⟩=some (.slice A2 n c2)∧w'.cell? (a.add (j*2))=some (.string y)∧Q w w') b→Calls Tryz.prog 80 #[.string x] b fun e w'=>e=.returned (.bool true)∧(fun w'=>w'.cell? (a.add (i*2))=some (.string x)∧w'.cell? ⟨(a.add (i*2)).block,(a.add (i*2)).off+1,none⟩=some (.slice A2 n c2)∧w'.cell? (a.add (j*2))=some (.string y)∧Q w w') w'):=AC (by
           intro b h
           refine(MK.out b).mono ?_
           rintro e w' ⟨rfl,rfl⟩
           exact⟨rfl,h⟩)
          have M2:Hid (∀ b,(fun w'=>w'.cell? (a.add (i*2))=some (.string x)∧w'.cell? ⟨(a.add (i*2)).block,(a.add (i*2)).off+1,none⟩=some (.slice A2 n c2)∧w'.cell? (a.add (j*2))=some (.string y)∧Q w w') b→Calls Tryz.prog 102 #[.slice A2 n c2] b fun e w'=>e=.returned (.bool true)∧(fun w'=>w'.cell? (a.add (i*2))=some (.string x)∧w'.cell? ⟨(a.add (i*2)).block,(a.add (i*2)).off+1,none⟩=some (.slice A2 n c2)∧w'.cell? (a.add (j*2))=some (.string y)∧Q w w') w'):=AC (by
           intro b h
           refine(MC.out b h.2.2.2).mono ?_
           rintro e w' ⟨rfl,q'⟩
           exact⟨rfl,KS.out _ (Q.trans h.2.2.2 q')⟩)
          have SN:Hid ((fun w'=>w'.cell? (a.add (i*2))=some (.string x)∧w'.cell? ⟨(a.add (i*2)).block,(a.add (i*2)).off+1,none⟩=some (.slice A2 n c2)∧w'.cell? (a.add (j*2))=some (.string y)∧Q w w') wr.drew):=AC (KS.out _ q0.drew)
          go_wp2_with fail
          refine wp_region_held_drew (S:=(fun w'=>w'.cell? (a.add (i*2))=some (.string x)∧w'.cell? ⟨(a.add (i*2)).block,(a.add (i*2)).off+1,none⟩=some (.slice A2 n c2)∧w'.cell? (a.add (j*2))=some (.string y)∧Q w w')) (by kernel_rfl) SN.out (fun hHeld=>?_)
          refine tkV 0 ?_
          refine tkV 1 ?_
          refine tkV 2 ?_
          refine tkV 3 ?_
          refine tkV 4 ?_
          refine aR [5] ?_
          refine aC rfl (fun K hK=>?_) aN
          go_simp
          go_at_call 80
          refine(M1.out _ (by assumption)).mono ?_
          rintro e w' ⟨rfl,hS⟩
          refine hK.out _ _ hS (fun hHeld=>?_)
          clear hK K
          refine pg ?_
          refine tkV 6 ?_
          refine tkV 7 ?_
          refine tkV 8 ?_
          refine tkV 9 ?_
          refine tkV 10 ?_
          refine tkV 11 ?_
          refine tkV 12 ?_
          refine tkV 13 ?_
          refine tkB 14 (.bool false) ?_
          refine tkV 15 ?_
          refine tkV 16 ?_
          refine tkV 17 ?_
          refine tkV 18 ?_
          refine tkV 19 ?_
          refine tkV 20 ?_
          refine tkV 21 ?_
          refine aR [22] ?_
          refine aC rfl (fun K hK=>?_) aN
          go_simp
          go_at_call 102
          refine(M2.out _ (by assumption)).mono ?_
          rintro e w' ⟨rfl,hS⟩
          refine hK.out _ _ hS (fun hHeld=>?_)
          clear hK K
          refine pg ?_
          refine tkV 23 ?_
          refine tkV 24 ?_
          refine tkV 25 ?_
          refine tkV 26 ?_
          refine tkB 27 (.bool true) ?_
          refine tkV 28 ?_
          refine tkV 29 ?_
          refine tkV 30 ?_
          refine tkV 31 ?_
          refine tkV 32 ?_
          refine tkV 33 ?_
          refine tkV 34 ?_
          refine tkV 35 ?_
          refine tkV 36 ?_
          refine tkV 37 ?_
          refine tkV 38 ?_
          refine tkV 39 ?_
          refine tkV 40 ?_
          refine tkV 41 ?_
          refine tkV 42 ?_
          refine wpAnyH_done (by kernel_rfl) ?_ _
          have q:=hS.2.2.2
          clear KS M1 SN
          go_wp2
          go_roundw
          case rel=>exact⟨i+1,by omega,by go_num,q,HK2⟩
          case measure=>simp [intOf];omega
        | false=>
          have HV:=AC (NO fun _ _ _ h=>by have:=h j HJ.out;rw [← HY.out,hlt2] at this;simp at this)
          unfold ltB at hlt2
          clear NO YES hk hvs h0 hi0 hsm hl2 hy hbt hj e2 e3
          have KS:Hid (∀ b,Q w b→(fun w'=>w'.cell? (a.add (i*2))=some (.string x)∧w'.cell? ⟨(a.add (i*2)).block,(a.add (i*2)).off+1,none⟩=some (.slice A2 n c2)∧w'.cell? (a.add (j*2))=some (.string y)∧Q w w') b):=AC (by
           intro b q
           obtain⟨c0,c1⟩:=HAT.out b q
           obtain⟨d0,-⟩:=HBT.out b q
           exact⟨c0,c1,d0,q⟩)
          have M1:Hid (∀ b,(fun w'=>w'.cell? (a.add (i*2))=some (.string x)∧w'.cell? ⟨(a.add (i*2)).block,(a.add (i*2)).off+1,none⟩=some (.slice A2 n c2)∧w'.cell? (a.add (j*2))=some (.string y)∧Q w w') b→Calls Tryz.prog 80 #[.string x] b fun e w'=>e=.returned (.bool true)∧(fun w'=>w'.cell? (a.add (i*2))=some (.string x)∧w'.cell? ⟨(a.add (i*2)).block,(a.add (i*2)).off+1,none⟩=some (.slice A2 n c2)∧w'.cell? (a.add (j*2))=some (.string y)∧Q w w') w'):=AC (by
           intro b h
           refine(MK.out b).mono ?_
           rintro e w' ⟨rfl,rfl⟩
           exact⟨rfl,h⟩)
          have M2:Hid (∀ b,(fun w'=>w'.cell? (a.add (i*2))=some (.string x)∧w'.cell? ⟨(a.add (i*2)).block,(a.add (i*2)).off+1,none⟩=some (.slice A2 n c2)∧w'.cell? (a.add (j*2))=some (.string y)∧Q w w') b→Calls Tryz.prog 102 #[.slice A2 n c2] b fun e w'=>e=.returned (.bool true)∧(fun w'=>w'.cell? (a.add (i*2))=some (.string x)∧w'.cell? ⟨(a.add (i*2)).block,(a.add (i*2)).off+1,none⟩=some (.slice A2 n c2)∧w'.cell? (a.add (j*2))=some (.string y)∧Q w w') w'):=AC (by
           intro b h
           refine(MC.out b h.2.2.2).mono ?_
           rintro e w' ⟨rfl,q'⟩
           exact⟨rfl,KS.out _ (Q.trans h.2.2.2 q')⟩)
          have SN:Hid ((fun w'=>w'.cell? (a.add (i*2))=some (.string x)∧w'.cell? ⟨(a.add (i*2)).block,(a.add (i*2)).off+1,none⟩=some (.slice A2 n c2)∧w'.cell? (a.add (j*2))=some (.string y)∧Q w w') wr.drew):=AC (KS.out _ q0.drew)
          go_wp2_with fail
          refine wp_region_held_drew (S:=(fun w'=>w'.cell? (a.add (i*2))=some (.string x)∧w'.cell? ⟨(a.add (i*2)).block,(a.add (i*2)).off+1,none⟩=some (.slice A2 n c2)∧w'.cell? (a.add (j*2))=some (.string y)∧Q w w')) (by kernel_rfl) SN.out (fun hHeld=>?_)
          refine tkV 0 ?_
          refine tkV 1 ?_
          refine tkV 2 ?_
          refine tkV 3 ?_
          refine tkV 4 ?_
          refine aR [5] ?_
          refine aC rfl (fun K hK=>?_) aN
          go_simp
          go_at_call 80
          refine(M1.out _ (by assumption)).mono ?_
          rintro e w' ⟨rfl,hS⟩
          refine hK.out _ _ hS (fun hHeld=>?_)
          clear hK K
          refine pg ?_
          refine tkV 6 ?_
          refine tkV 7 ?_
          refine tkV 8 ?_
          refine tkV 9 ?_
          refine tkV 10 ?_
          refine tkV 11 ?_
          refine tkV 12 ?_
          refine tkV 13 ?_
          refine tkB 14 (.bool false) ?_
          refine tkV 15 ?_
          refine tkV 16 ?_
          refine tkV 17 ?_
          refine tkV 18 ?_
          refine tkV 19 ?_
          refine tkV 20 ?_
          refine tkV 21 ?_
          refine aR [22] ?_
          refine aC rfl (fun K hK=>?_) aN
          go_simp
          go_at_call 102
          refine(M2.out _ (by assumption)).mono ?_
          rintro e w' ⟨rfl,hS⟩
          refine hK.out _ _ hS (fun hHeld=>?_)
          clear hK K
          refine pg ?_
          refine tkV 23 ?_
          refine tkV 24 ?_
          refine tkV 25 ?_
          refine tkV 26 ?_
          refine tkB 27 (.bool true) ?_
          refine tkV 28 ?_
          refine tkV 29 ?_
          refine tkV 30 ?_
          refine tkV 31 ?_
          refine tkV 32 ?_
          refine tkV 33 ?_
          refine tkV 34 ?_
          refine tkV 35 ?_
          refine tkV 36 ?_
          refine tkV 37 ?_
          refine tkV 38 ?_
          refine tkV 39 ?_
          refine tkV 40 ?_
          refine tkV 41 ?_
          refine tkV 42 ?_
          refine wpAnyH_done (by kernel_rfl) ?_ _
          have q:=hS.2.2.2
          clear KS M1 SN
          go_wp2
          go_ret
          exact⟨AE (by rw [HV.out]),q⟩
      ·have HV:=AC (NO fun _ _ h=>absurd h hno)
       clear NO YES hk hvs h0 hsm hl2 hno
       have KS:Hid (∀ b,Q w b→(fun w'=>w'.cell? (a.add (i*2))=some (.string x)∧w'.cell? ⟨(a.add (i*2)).block,(a.add (i*2)).off+1,none⟩=some (.slice A2 n c2)∧Q w w') b):=AC (by
        intro b q
        obtain⟨c0,c1⟩:=HAT.out b q
        exact⟨c0,c1,q⟩)
       have M1:Hid (∀ b,(fun w'=>w'.cell? (a.add (i*2))=some (.string x)∧w'.cell? ⟨(a.add (i*2)).block,(a.add (i*2)).off+1,none⟩=some (.slice A2 n c2)∧Q w w') b→Calls Tryz.prog 80 #[.string x] b fun e w'=>e=.returned (.bool true)∧(fun w'=>w'.cell? (a.add (i*2))=some (.string x)∧w'.cell? ⟨(a.add (i*2)).block,(a.add (i*2)).off+1,none⟩=some (.slice A2 n c2)∧Q w w') w'):=AC (by
        intro b h
        refine(MK.out b).mono ?_
        rintro e w' ⟨rfl,rfl⟩
        exact⟨rfl,h⟩)
       have M2:Hid (∀ b,(fun w'=>w'.cell? (a.add (i*2))=some (.string x)∧w'.cell? ⟨(a.add (i*2)).block,(a.add (i*2)).off+1,none⟩=some (.slice A2 n c2)∧Q w w') b→Calls Tryz.prog 102 #[.slice A2 n c2] b fun e w'=>e=.returned (.bool false)∧(fun w'=>w'.cell? (a.add (i*2))=some (.string x)∧w'.cell? ⟨(a.add (i*2)).block,(a.add (i*2)).off+1,none⟩=some (.slice A2 n c2)∧Q w w') w'):=AC (by
        intro b h
        refine(MC.out b h.2.2).mono ?_
        rintro e w' ⟨rfl,q'⟩
        exact⟨rfl,KS.out _ (Q.trans h.2.2 q')⟩)
       have SN:Hid ((fun w'=>w'.cell? (a.add (i*2))=some (.string x)∧w'.cell? ⟨(a.add (i*2)).block,(a.add (i*2)).off+1,none⟩=some (.slice A2 n c2)∧Q w w') wr.drew):=AC (KS.out _ q0.drew)
       go_wp2_with fail
       refine wp_region_held_drew (S:=(fun w'=>w'.cell? (a.add (i*2))=some (.string x)∧w'.cell? ⟨(a.add (i*2)).block,(a.add (i*2)).off+1,none⟩=some (.slice A2 n c2)∧Q w w')) (by kernel_rfl) SN.out (fun hHeld=>?_)
       refine tkV 0 ?_
       refine tkV 1 ?_
       refine tkV 2 ?_
       refine tkV 3 ?_
       refine tkV 4 ?_
       refine aR [5] ?_
       refine aC rfl (fun K hK=>?_) aN
       go_simp
       go_at_call 80
       refine(M1.out _ (by assumption)).mono ?_
       rintro e w' ⟨rfl,hS⟩
       refine hK.out _ _ hS (fun hHeld=>?_)
       clear hK K
       refine pg ?_
       refine tkV 6 ?_
       refine tkV 7 ?_
       refine tkV 8 ?_
       refine tkV 9 ?_
       refine tkV 10 ?_
       refine tkV 11 ?_
       refine tkV 12 ?_
       refine tkV 13 ?_
       refine tkB 14 (.bool false) ?_
       refine tkV 15 ?_
       refine tkV 16 ?_
       refine tkV 17 ?_
       refine tkV 18 ?_
       refine tkV 19 ?_
       refine tkV 20 ?_
       refine tkV 21 ?_
       refine aR [22] ?_
       refine aC rfl (fun K hK=>?_) aN
       go_simp
       go_at_call 102
       refine(M2.out _ (by assumption)).mono ?_
       rintro e w' ⟨rfl,hS⟩
       refine hK.out _ _ hS (fun hHeld=>?_)
       clear hK K
       refine pg ?_
       refine tkV 23 ?_
       refine tkV 24 ?_
       refine tkV 25 ?_
       refine tkU 26 ?_
       refine tkU 27 ?_
       refine tkU 28 ?_
       refine tkU 29 ?_
       refine tkU 30 ?_
       refine tkU 31 ?_
       refine tkU 32 ?_
       refine tkU 33 ?_
       refine tkU 34 ?_
       refine tkU 35 ?_
       refine tkU 36 ?_
       refine tkU 37 ?_
       refine tkU 38 ?_
       refine tkU 39 ?_
       refine tkU 40 ?_
       refine tkU 41 ?_
       refine tkV 42 ?_
       refine wpAnyH_done (by kernel_rfl) ?_ _
       have q:=hS.2.2
       clear KS M1 SN
       go_wp2
       go_ret
       exact⟨AE (by rw [HV.out]),q⟩
  ·have HV:=AC (Jt HR.out (fun j h=>HK.out j (by omega)))
   by_cases h60:l.length≤60
   ·have h60':(l.length:Int)≤60:=by omega
    go_wp2
    go_ret
    exact⟨AE (by rw [HV.out];simp [h60]),q0⟩
   ·have h60':¬ (l.length:Int)≤60:=by omega
    go_wp2
    go_ret
    exact⟨AE (by rw [HV.out];simp [h60]),q0⟩
end
end Go.Proofs.YtjjlbbfhmpbneaaGreat
