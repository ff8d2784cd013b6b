/-
  Contract of the program's Check. Contract of the document's Put. An index with some of its entries exchanged, with lists of its own: contracts of cut, entries, Clone, apart. apart; the plain facts of an index in order. Contract of Put of an index. Plain facts of indices: Few, Put.
-/
import Derived.Test.YtjjlbbfhmpbneaaGreatLj
import Derived.Test.YtjjlbbfhmpbneaaGreatLf
namespace Go.Proofs.YtjjlbbfhmpbneaaGreat
open AllReadyH renaming cons → aC, nil → aN
open Lib renaming hid → AC
set_option maxHeartbeats 16000000
set_option maxRecDepth 100000
set_option linter.unusedVariables false
set_option linter.unusedSimpArgs false
section
open Go.ChangeShapes Go.WideShapes Go.ChangeAt Go.RowKit
def Ho(l:List Ent)(i:Nat):ByteArray:=match i with
 | 0=>⟨#[]⟩
 | j+1=>if h:j<l.length then l[j].key else⟨#[]⟩
theorem Ko{l:List Ent}{i:Nat}(h:i<l.length):Ho l (i+1)=l[i].key:=by rw [Ho,dif_pos h]
theorem TC{l:List Ent}{i:Nat}{x:ByteArray}(h:∀ j (hj:j+1=i) (hl:j<l.length),ltB l[j].key x=true)(hx:0<x.size)(hi:i≤l.length):ltB (Ho l i) x=true:=by
 cases i with
 | zero=>
   unfold ltB Ho
   rw [BQ,BQ]
   cases e:bl x with
   | nil=>have:=Ba x;rw [e] at this;simp at this;omega
   | cons a r=>rfl
 | succ j=>
   rw [Ho,dif_pos (by omega)]
   exact h j rfl (by omega)
theorem Rg{l:List Ent}{i:Nat}{x:ByteArray}(h:ltB (Ho l i) x=true):∀ j (hj:j+1=i) (hl:j<l.length),ltB l[j].key x=true:=by
 intro j hj hl
 subst hj
 rw [Ho,dif_pos hl] at h
 exact h
theorem Gn{w w1:World}{k:ByteArray}{u:Value}(q:Q (w.alloc (.cells #[.string k,u] 79)) w1):w1.cell? ⟨w.heap.size,0,none⟩=some (.string k)∧w1.cell? ⟨w.heap.size,1,none⟩=some u:=by
 have c:∀ j,w1.cell? ⟨w.heap.size,j,none⟩=(w.alloc (.cells #[.string k,u] 79)).cell? ⟨w.heap.size,j,none⟩:=fun j=>Below.cell q (p:=⟨w.heap.size,j,none⟩) (by simp)
 refine⟨(c 0).trans ?_,(c 1).trans ?_⟩ <;> simp [go_sem]
theorem Du(l:List Ent)(v:Value)(w:World)(R:Bool)(hR:Sl l R)(hs:By l)(ht:Ents w w.heap.size v l):
  Calls Tryz.prog 46 #[v] w fun e w'=>e=.returned (.int .i64 (Fz R))∧Q w w':=by
 have HT:=AC ht
 have HR:=AC hR
 have HS:=AC hs
 have hl:=hs.1
 obtain⟨A,c,rfl⟩:=ht.form
 clear ht hR hs
 by_cases h60:l.length≤60
 ·have h60':¬ (60:Int)<(l.length:Int):=by omega
  go_enter Tryz.func46,Tryz.ntmps46
  go_wp2_with fail
  go_loopw [3,11] (fun Z I wr=>∃ i:Nat,∃ z:ByteArray,i≤l.length∧I=.int .i64 i∧Z=.string z∧Hid (z=Ho l i)∧Q w wr∧Hid (∀ j,j<i→IQ l j)) (fun _ I _=>l.length - (intOf I).toNat)
  case atStart=>exact⟨0,_,Nat.zero_le _,rfl,rfl,AC rfl,Q.refl _,AC (fun j h=>by omega)⟩
  case round=>
   obtain⟨i,z,hil,rfl,rfl,HZ,q0,HK⟩:=hrel
   by_cases hlt:i<l.length
   ·obtain⟨a,c',hv,ha,A2,c2,hvs,hat⟩:=HT.out.pick i hlt
    injection hv with e1 e2 e3
    subst e1 e3
    have hsm:=HS.out.2 _ (List.getElem_mem hlt)
    have hilt:(i:Int)<(l.length:Int):=by omega
    have hz2:=Ko hlt
    obtain⟨e,he⟩:∃ e,e=l[i]:=⟨_,rfl⟩
    rw [← he] at hvs hat hsm hz2
    have HE:=AC he
    clear he
    obtain⟨x,L⟩:=e
    simp only at hvs hat hsm hz2
    have NO:(BD 1 60 ko x=true→0<L.length→okP L→ltB z x=true→False)→R=false:=fun h=>Gj HR.out fun o=>by
     obtain⟨h1,h2,h3,h4⟩:=o.2 i hlt
     rw [← HE.out] at h1 h2 h3
     refine h h1 h2 h3 ?_
     rw [HZ.out]
     refine TC (fun j hj hl=>?_) (Ey h1).1 hil
     have:=h4 j hj
     rwa [← HE.out] at this
    have YES:BD 1 60 ko x=true→0<L.length→okP L→ltB z x=true→∀ j,j<i+1→IQ l j:=fun h1 h2 h3 h4 j hj=>by
     by_cases e:j=i
     ·subst e
      intro h
      refine⟨by rw [← HE.out];exact h1,by rw [← HE.out];exact h2,by rw [← HE.out];exact h3,fun j' hj'=>?_⟩
      rw [HZ.out] at h4
      have:=Rg h4 j' hj' (by omega)
      rw [← HE.out];exact this
     ·exact HK.out j (by omega)
    have HZ2:=AC hz2.symm
    obtain⟨n,hn⟩:∃ n,L.length=n:=⟨_,rfl⟩
    have hvs:Vers w w.heap.size (.slice A2 n c2) L:=by rw [← hn];exact hvs
    obtain⟨d0,d1⟩:=hat _ q0
    have hl2:=hsm.2.1
    rw [hn] at NO YES d1
    have q1:=q0.alloc (.cells #[.string x,.slice A2 n c2] 79)
    have q2:=(Q.refl wr).alloc (.cells #[.string x,.slice A2 n c2] 79)
    have MK:=AC fun d=>Cn x d hsm.1
    have HN:=AC hn
    clear hn hat hz2
    cases hk:BD 1 60 ko x with
    | false=>
      rw [hk] at MK
      have HV:=AC (NO fun h=>by rw [hk] at h;simp at h)
      clear NO YES hk hvs hsm hl2
      go_wp2_with fail
      refine(MK.out _).mono ?_
      rintro e w1 ⟨rfl,q3⟩
      go_wp2
      go_ret
      exact⟨by rw [HV.out];rfl,q1.trans q3⟩
    | true=>
      rw [hk] at MK
      have hle:=Mm x z
      cases hlt2:ltB z x with
      | false=>
        rw [hlt2] at hle
        have HV:=AC (NO fun _ _ _ h=>by rw [hlt2] at h;simp at h)
        have hle2:(Op.bytesLess x.toList z.toList||x.toList==z.toList)=true:=hle
        clear NO YES hk hvs hsm hl2 hle hlt2
        go_wp2_with fail
        refine(MK.out _).mono ?_
        rintro e w1 ⟨rfl,q3⟩
        obtain⟨b0,b1⟩:=Gn q3
        go_wp2
        go_ret
        exact⟨by rw [HV.out];rfl,q1.trans q3⟩
      | true=>
        rw [hlt2] at hle
        have hle2:(Op.bytesLess x.toList z.toList||x.toList==z.toList)=false:=hle
        have hle3:Op.bytesLess x.toList z.toList=false:=by cases h:Op.bytesLess x.toList z.toList with
         | false=>rfl
         | true=>rw [h] at hle2;simp at hle2
        have hle4:(x.toList==z.toList)=false:=by rw [hle3] at hle2;simpa using hle2
        clear hle
        by_cases h0:n=0
        ·have HV:=AC (NO fun _ h=>by omega)
         have hne:((n:Int)==0)=true:=by simp [h0]
         clear NO YES hk hvs hsm hl2 h0
         go_wp2_with fail
         refine(MK.out _).mono ?_
         rintro e w1 ⟨rfl,q3⟩
         obtain⟨b0,b1⟩:=Gn q3
         go_wp2
         go_ret
         exact⟨by rw [HV.out];rfl,q1.trans q3⟩
        ·obtain⟨C,hC⟩:=Gi L
         have MC:Hid (∀ b,Q w b→Calls Tryz.prog 94 #[.slice A2 n c2] b fun e w'=>e=.returned (.int .i64 (Fz C))∧Q b w'):=AC (fun b q=>Cp L _ b C hC hl2 (hvs.on q))
         have hne:((n:Int)==0)=false:=by
          have:¬ (n:Int)=0:=by omega
          simpa using this
         rcases hC with⟨rfl,hok⟩ | ⟨rfl,hno⟩
         ·have HK2:=AC (YES hk (by omega) hok hlt2)
          rw [show Fz true=0 from rfl] at MC
          clear NO YES hk hvs h0 hsm hl2 hlt2 hok
          go_wp2_with fail
          refine(MK.out _).mono ?_
          rintro e w1 ⟨rfl,q3⟩
          obtain⟨b0,b1⟩:=Gn q3
          go_wp2_with fail
          refine(MC.out _ (q1.trans q3)).mono ?_
          rintro e w2 ⟨rfl,q4⟩
          go_wp2
          go_roundw
          case rel=>exact⟨i+1,x,by omega,by go_num,rfl,HZ2,(q1.trans q3).trans q4,HK2⟩
          case measure=>simp [intOf];omega
         ·have HV:=AC (NO fun _ _ h=>absurd h hno)
          rw [show Fz false=1 from rfl] at MC
          clear NO YES hk hvs h0 hsm hl2 hlt2 hno
          go_wp2_with fail
          refine(MK.out _).mono ?_
          rintro e w1 ⟨rfl,q3⟩
          obtain⟨b0,b1⟩:=Gn q3
          go_wp2_with fail
          refine(MC.out _ (q1.trans q3)).mono ?_
          rintro e w2 ⟨rfl,q4⟩
          go_wp2
          go_ret
          exact⟨by rw [HV.out];rfl,(q1.trans q3).trans q4⟩
   ·have HV:=AC (Jt HR.out (fun j h=>HK.out j (by omega)))
    go_wp2
    go_ret
    exact⟨by rw [HV.out];simp [h60,Fz],q0⟩
 ·have HV:=AC (Gj HR.out fun o=>h60 o.1)
  have h60':(60:Int)<(l.length:Int):=by omega
  go_enter Tryz.func46,Tryz.ntmps46
  go_wp2
  go_ret
  exact⟨by rw [HV.out];rfl,Q.refl _⟩
end
section
open Go.ChangeShapes Go.WideShapes Go.ChangeAt Go.RowKit
def B6(l:List Ent)(key:ByteArray)(c:List Ver):List Ent:=l.filter (fun e=>ltB e.key key)++(if c=[] then[] else[⟨key,c⟩])++l.filter (fun e=>ltB key e.key)
def OE(l:List Ent)(key:ByteArray)(c:List Ver)(L:List Ent)(k:Nat):Prop:=
 (¬ (okI l∧BD 1 60 ko key=true∧okP c)∧L=[]∧k=1)∨((okI l∧BD 1 60 ko key=true∧okP c)∧((60<(B6 l key c).length∧L=[]∧k=6)∨((B6 l key c).length≤60∧L=B6 l key c∧k=0)))
theorem RL(l:List Ent)(key:ByteArray)(c:List Ver):∃ L k,OE l key c L k:=by
 by_cases h:okI l∧BD 1 60 ko key=true∧okP c
 ·by_cases k:(B6 l key c).length≤60
  ·exact⟨_,_,.inr ⟨h,.inr ⟨k,rfl,rfl⟩⟩⟩
  ·exact⟨_,_,.inr ⟨h,.inl ⟨by omega,rfl,rfl⟩⟩⟩
 ·exact⟨_,_,.inl ⟨h,rfl,rfl⟩⟩
theorem JH{l:List Ent}{key:ByteArray}{c:List Ver}{L M:List Ent}{j k:Nat}(h:OE l key c L k)(h':OE l key c M j):L=M∧k=j:=by
 rcases h with⟨h1,rfl,rfl⟩ | ⟨h1,h2⟩
 ·rcases h' with⟨-,rfl,rfl⟩ | ⟨k1,-⟩
  ·exact⟨rfl,rfl⟩
  ·exact absurd k1 h1
 ·rcases h' with⟨k1,-⟩ | ⟨-,k2⟩
  ·exact absurd h1 k1
  ·rcases h2 with⟨a,rfl,rfl⟩ | ⟨a,rfl,rfl⟩
   ·rcases k2 with⟨b,rfl,rfl⟩ | ⟨b,-⟩
    ·exact⟨rfl,rfl⟩
    ·omega
   ·rcases k2 with⟨b,-⟩ | ⟨b,rfl,rfl⟩
    ·omega
    ·exact⟨rfl,rfl⟩
theorem E7(l:List Ent)(i:Nat)(h:i<l.length)(p:Ent→Bool):(p l[i]=true→(l.take (i+1)).filter p=(l.take i).filter p ++ [l[i]])∧(p l[i]=false→(l.take (i+1)).filter p=(l.take i).filter p):=by
 rw [List.take_succ_eq_append_getElem h,List.filter_append]
 refine⟨fun k=>?_,fun k=>?_⟩
 ·rw [List.filter_cons_of_pos k];simp
 ·rw [List.filter_cons_of_neg (by simp [k])];simp
theorem Iv(l:List Ent)(i:Nat)(p:Ent→Bool):((l.take i).filter p).length≤l.length:=by
 have:=List.length_filter_le p (l.take i)
 rw [List.length_take] at this;omega
theorem DP{base:Nat}{w w':World}{v v' u:Value}{P:List (Ent×Value)}{x:Ent}{o:Obj}(hr:RowE base w v P)(hf:∀ p∈P,p.1.key.size≤maxLen∧Apt base w p.2 p.1.L)(hq:x.key.size≤maxLen)(ax:Apt base w u x.L)
  (h1:w'.ownsRow base 79 2 v' (P.length+1) (P.flatMap AY++AY (x,u))) (h2:(w.alloc o).grownBy w' v.ownBlock) (hs:base≤w.heap.size):OwnE base w' v' (P.map (·.1) ++ [x]):=
 OwnE.snoc (p:=(x,u)) (RowE.on hr ((Q.refl w).alloc _)) (fun q hq=>⟨(hf q hq).1,(hf q hq).2.on ((Q.refl w).alloc _) hs⟩) hq (ax.on ((Q.refl w).alloc _) hs) h1 h2 (by simp;omega)
theorem L8(l:List Ent)(key:ByteArray)(m:List Ver)(v vc:Value)(w:World)(hno:¬ (okI l∧BD 1 60 ko key=true∧okP m))(hs:By l)(hk:key.size≤1000)(hm:m.length≤1000)(ht:Ents w w.heap.size v l)(hc:Vers w w.heap.size vc m):
  Calls Tryz.prog 128 #[v,.string key,vc] w fun e w'=>e=.returned (.tuple #[.slice none 0 0,.int .i64 1])∧Q w w':=by
 obtain⟨R,hR⟩:=Gk l
 obtain⟨C,hC⟩:=Gi m
 have M:=AC (Eh l v w R hR hs ht)
 have K:=AC fun d=>Bn key d hk
 have CK:Hid (∀ d,Q w d→Calls Tryz.prog 102 #[vc] d fun e w'=>e=.returned (.bool C)∧Q d w'):=AC (fun d q=>AR m vc d C hC hm (hc.on q))
 obtain⟨A,c,rfl⟩:=ht.form
 obtain⟨Ac,cc,rfl⟩:=hc.form
 rcases hR with⟨rfl,o1⟩ | ⟨rfl,o1⟩
 ·cases hk1:BD 1 60 ko key with
  | true=>
    rw [hk1] at K
    rcases hC with⟨rfl,o2⟩ | ⟨rfl,o2⟩
    ·exact absurd ⟨o1,hk1,o2⟩ hno
    ·clear hno o1 o2 hk1 ht hc
     go_enter Tryz.func128,Tryz.ntmps128
     go_wp2_with fail
     refine(M.out).mono ?_
     rintro e w1 ⟨rfl,q1⟩
     go_wp2_with fail
     refine(K.out _).mono ?_
     rintro e w2 ⟨rfl,rfl⟩
     go_wp2_with fail
     refine(CK.out _ q1).mono ?_
     rintro e w3 ⟨rfl,q3⟩
     go_wp2
     go_ret2
     exact⟨rfl,q1.trans q3⟩
  | false=>
    rw [hk1] at K
    clear hno o1 hk1 ht hc
    go_enter Tryz.func128,Tryz.ntmps128
    go_wp2_with fail
    refine(M.out).mono ?_
    rintro e w1 ⟨rfl,q1⟩
    go_wp2_with fail
    refine(K.out _).mono ?_
    rintro e w2 ⟨rfl,rfl⟩
    go_wp2
    go_ret2
    exact⟨rfl,q1⟩
 ·clear hno o1 ht hc
  go_enter Tryz.func128,Tryz.ntmps128
  go_wp2_with fail
  refine(M.out).mono ?_
  rintro e w1 ⟨rfl,q1⟩
  go_wp2
  go_ret2
  exact⟨rfl,q1⟩
theorem KO(l:List Ent)(key:ByteArray)(m:List Ver)(v vc:Value)(w:World)(o1:okI l)(o2:BD 1 60 ko key=true)(o3:okP m)(hs:By l)(hk:key.size≤1000)(hm:m.length≤1000)(ht:Ents w w.heap.size v l)(hc:Vers w w.heap.size vc m):
  Calls Tryz.prog 128 #[v,.string key,vc] w fun e w'=>∃ v' L k,e=.returned (.tuple #[v',.int .i64 (k:Nat)])∧((60<(B6 l key m).length∧L=[]∧k=6)∨((B6 l key m).length≤60∧L=B6 l key m∧k=0))∧Ents w' w'.heap.size v' L∧Q w w':=by
 have M:=AC (Eh l v w true (.inl ⟨rfl,o1⟩) hs ht)
 have K:=AC fun d=>Bn key d hk
 rw [o2] at K
 have CK:Hid (∀ d,Q w d→Calls Tryz.prog 102 #[vc] d fun e w'=>e=.returned (.bool true)∧Q d w'):=AC (fun d q=>AR m vc d true (.inl ⟨rfl,o3⟩) hm (hc.on q))
 have HT:=AC ht
 have HS:=AC hs
 have HO:=AC ht.okVs
 have hmv:=hc.okAll'
 have hl:=hs.1
 obtain⟨A,c,rfl⟩:=ht.form
 obtain⟨Ac,cc,rfl⟩:=hc.form
 obtain⟨N,hN⟩:∃ N,m.length=N:=⟨_,rfl⟩
 rw [hN] at hc CK hm ⊢
 have HC:=AC hc
 have HM:=AC hN
 obtain⟨i0,hi,hz0,hz1,hz2⟩:=info_parts ER
 clear o1 o2 o3 ht hc hs
 go_enter Tryz.func128,Tryz.ntmps128
 go_wp2_with fail
 refine(M.out).mono ?_
 rintro e w1 ⟨rfl,q1⟩
 go_wp2_with fail
 refine(K.out _).mono ?_
 rintro e w2 ⟨rfl,rfl⟩
 go_wp2_with fail
 refine(CK.out _ q1).mono ?_
 rintro e w3 ⟨rfl,qq⟩
 have q3:=q1.trans qq
 clear q1 qq M K CK
 go_wp2_with fail
 go_loopw [8,9] (fun O I wr=>∃ i:Nat,i≤l.length∧I=.int .i64 i∧OwnE w.heap.size wr O ([]++(l.take i).filter (fun e=>ltB e.key key))∧Q w wr) (fun _ I _=>l.length - (intOf I).toNat)
 case atStart=>exact⟨0,Nat.zero_le _,rfl,OwnE.nil _ _,q3⟩
 case round=>
  obtain⟨i,hil,rfl,hown,q⟩:=hrel
  by_cases hlt:i<l.length
  ·obtain⟨a,c',hv,ha,A2,c2,hvs,hat⟩:=HT.out.pick i hlt
   injection hv with e1 e2 e3
   subst e1 e3
   have hok:=HS.out.2 _ (List.getElem_mem hlt)
   have hov:=HO.out _ (List.getElem_mem hlt)
   have hilt:(i:Int)<(l.length:Int):=by omega
   have HF:=E7 l i hlt (fun e=>ltB e.key key)
   obtain⟨d0,d1⟩:=hat _ q
   obtain⟨x,hx⟩:∃ x,x=l[i]:=⟨_,rfl⟩
   rw [← hx] at d0 d1 hvs hok HF hov
   clear hx hat
   cases hb:ltB x.key key with
   | true=>
     have HW:=AC (HF.1 hb)
     clear HF
     skip
     unfold ltB at hb
     have AX:Apt w.heap.size wr (.slice A2 x.L.length c2) x.L:=⟨hov,by unfold maxLen;omega,.inl (hvs.below q)⟩
     obtain⟨P,hP,hr,hf⟩:=hown
     have hPl:P.length≤3000:=by rw [← List.length_map (f:=(·.1)),hP,List.length_append];have k1:=Iv l i (fun e=>ltB e.key key);have k2:([]:List Ent).length≤1001:=(by first | assumption | simp);omega
     have hs:=q.size
     have hq:x.key.size≤maxLen:=by unfold maxLen;omega
     go_wp2_with (first | (at_builtin;refine wpList_append_own _ rfl _ _ 22 rfl w.heap.size 79 i0 (.agg #[.string ⟨#[]⟩,.slice none 0 0]) 2 40 Tryz.underlying22 hi hz0 hz1 hz2 rfl (by decide) _ _ _ rfl (World.ownsRow.alloc hr _) ⟨wr.heap.size,0,none⟩ 1 1 (AY (x,(.slice A2 x.L.length c2))) rfl rfl (CQ wr (x,(.slice A2 x.L.length c2)) _) (Bq ⟨_,_,_,rfl⟩) (by unfold maxLen;omega) (by omega) (by simp;omega) ?_;intro v1 w1 h1 h2 _;have r1:=DP (x:=x) hr hf hq AX h1 h2 hs;have b1:Q w w1:=CI (q.alloc _) (by simp;omega) (RowE.on hr ((Q.refl wr).alloc _)) h2;rw [hP] at r1;clear h1 h2))
     rw [List.append_assoc,← HW.out] at r1
     go_roundw
     case rel=>exact⟨i+1,by omega,by go_num,r1,b1⟩
     case measure=>simp [intOf];omega
   | false=>
     have HW:=AC (HF.2 hb)
     clear HF
     skip
     unfold ltB at hb
     clear d1 hvs
     go_wp2_with fail
     go_roundw
     case rel=>exact⟨i+1,by omega,by go_num,by rw [HW.out];exact hown,q⟩
     case measure=>simp [intOf];omega
  ·have h2:¬ (i:Int)<(l.length:Int):=by omega
   rw [List.take_of_length_le (by omega)] at hown
   clear q3
   by_cases hn0:N=0
   ·have hcn:¬ (0:Int)<(N:Int):=by omega
    obtain⟨PR,hPR⟩:∃ PR,PR=[]++l.filter (fun e=>ltB e.key key):=⟨_,rfl⟩
    have HPR:Hid (PR++l.filter (fun e=>ltB key e.key)=B6 l key m):=AC (by rw [hPR,B6,if_pos (List.length_eq_zero_iff.1 (by omega))];simp)
    have hPL:PR.length≤1001:=by rw [hPR];have:=List.length_filter_le (fun e:Ent=>ltB e.key key) l;simp;omega
    have hpre:OwnE w.heap.size wr u8 PR:=by rw [hPR];exact hown
    have qp:=q
    clear q hPR hown hN
    go_wp2_with fail
    go_loopw [8,10] (fun O I wr=>∃ i:Nat,i≤l.length∧I=.int .i64 i∧OwnE w.heap.size wr O (PR++(l.take i).filter (fun e=>ltB key e.key))∧Q w wr) (fun _ I _=>l.length - (intOf I).toNat)
    case atStart=>exact⟨0,Nat.zero_le _,rfl,by simpa using hpre,qp⟩
    case round=>
     obtain⟨i,hil,rfl,hown,q⟩:=hrel
     by_cases hlt:i<l.length
     ·obtain⟨a,c',hv,ha,A2,c2,hvs,hat⟩:=HT.out.pick i hlt
      injection hv with e1 e2 e3
      subst e1 e3
      have hok:=HS.out.2 _ (List.getElem_mem hlt)
      have hov:=HO.out _ (List.getElem_mem hlt)
      have hilt:(i:Int)<(l.length:Int):=by omega
      have HF:=E7 l i hlt (fun e=>ltB key e.key)
      obtain⟨d0,d1⟩:=hat _ q
      obtain⟨x,hx⟩:∃ x,x=l[i]:=⟨_,rfl⟩
      rw [← hx] at d0 d1 hvs hok HF hov
      clear hx hat
      cases hb:ltB key x.key with
      | true=>
        have HW:=AC (HF.1 hb)
        clear HF
        have hg:=(ES x.key key).trans hb
        have h3:(Op.bytesLess x.key.toList key.toList||x.key.toList==key.toList)=false:=by simpa using hg
        unfold ltB at hb
        have AX:Apt w.heap.size wr (.slice A2 x.L.length c2) x.L:=⟨hov,by unfold maxLen;omega,.inl (hvs.below q)⟩
        obtain⟨P,hP,hr,hf⟩:=hown
        have hPl:P.length≤3000:=by rw [← List.length_map (f:=(·.1)),hP,List.length_append];have k1:=Iv l i (fun e=>ltB key e.key);have k2:(PR:List Ent).length≤1001:=(by first | assumption | simp);omega
        have hs:=q.size
        have hq:x.key.size≤maxLen:=by unfold maxLen;omega
        go_wp2_with (first | (at_builtin;refine wpList_append_own _ rfl _ _ 22 rfl w.heap.size 79 i0 (.agg #[.string ⟨#[]⟩,.slice none 0 0]) 2 40 Tryz.underlying22 hi hz0 hz1 hz2 rfl (by decide) _ _ _ rfl (World.ownsRow.alloc hr _) ⟨wr.heap.size,0,none⟩ 1 1 (AY (x,(.slice A2 x.L.length c2))) rfl rfl (CQ wr (x,(.slice A2 x.L.length c2)) _) (Bq ⟨_,_,_,rfl⟩) (by unfold maxLen;omega) (by omega) (by simp;omega) ?_;intro v1 w1 h1 h2 _;have r1:=DP (x:=x) hr hf hq AX h1 h2 hs;have b1:Q w w1:=CI (q.alloc _) (by simp;omega) (RowE.on hr ((Q.refl wr).alloc _)) h2;rw [hP] at r1;clear h1 h2))
        rw [List.append_assoc,← HW.out] at r1
        go_roundw
        case rel=>exact⟨i+1,by omega,by go_num,r1,b1⟩
        case measure=>simp [intOf];omega
      | false=>
        have HW:=AC (HF.2 hb)
        clear HF
        have hg:=(ES x.key key).trans hb
        have h3:(Op.bytesLess x.key.toList key.toList||x.key.toList==key.toList)=true:=by revert hg;cases (Op.bytesLess x.key.toList key.toList||x.key.toList==key.toList) <;> simp
        unfold ltB at hb
        clear d1 hvs
        go_wp2_with fail
        go_roundw
        case rel=>exact⟨i+1,by omega,by go_num,by rw [HW.out];exact hown,q⟩
        case measure=>simp [intOf];omega
     ·have h2:¬ (i:Int)<(l.length:Int):=by omega
      rw [List.take_of_length_le (by omega)] at hown
      obtain⟨A9,c9,rfl⟩:=hown.len
      have HW:=AC hown
      obtain⟨n,hn⟩:∃ n,(PR++l.filter (fun e=>ltB key e.key)).length=n:=⟨_,rfl⟩
      have HN:=AC hn
      rw [hn]
      clear hown hn
      by_cases h60:n≤60
      ·have h60':¬ (60:Int)<(n:Int):=by omega
       go_wp2
       go_ret2
       refine⟨_,B6 l key m,_,rfl,.inr ⟨?_,rfl,rfl⟩,?_,q⟩
       ·rw [← HPR.out,HN.out];exact h60
       ·rw [← HPR.out];rw [← HN.out];exact HW.out.ents q.size
      ·have h60':(60:Int)<(n:Int):=by omega
       go_wp2
       go_ret2
       refine⟨_,_,_,rfl,.inl ⟨?_,rfl,rfl⟩,Ents.nil _ _,q⟩
       rw [← HPR.out,HN.out];first | assumption | omega
   ·skip
    have hcn:(0:Int)<(N:Int):=by omega
    have AX:Apt w.heap.size wr (.slice Ac N cc) m:=⟨hmv,by have:=HM.out;unfold maxLen;omega,.inl (HC.out.below q)⟩
    obtain⟨P,hP,hr,hf⟩:=hown
    have hPl:P.length≤1000:=by rw [← List.length_map (f:=(·.1)),hP];have:=List.length_filter_le (fun e:Ent=>ltB e.key key) l;simp;omega
    have hs:=q.size
    have hq:(⟨key,m⟩:Ent).key.size≤maxLen:=by show key.size≤_;unfold maxLen;omega
    go_wp2_with (first | (at_builtin;refine wpList_append_own _ rfl _ _ 22 rfl w.heap.size 79 i0 (.agg #[.string ⟨#[]⟩,.slice none 0 0]) 2 40 Tryz.underlying22 hi hz0 hz1 hz2 rfl (by decide) _ _ _ rfl (World.ownsRow.alloc hr _) ⟨wr.heap.size,0,none⟩ 1 1 (AY ((⟨key,m⟩:Ent),(.slice Ac N cc))) rfl rfl (CQ wr ((⟨key,m⟩:Ent),(.slice Ac N cc)) _) (Bq ⟨_,_,_,rfl⟩) (by unfold maxLen;omega) (by omega) (by simp;omega) ?_;intro v1 w1 h1 h2 _;have r1:=DP (x:=(⟨key,m⟩:Ent)) hr hf hq AX h1 h2 hs;have b1:Q w w1:=CI (q.alloc _) (by simp;omega) (RowE.on hr ((Q.refl wr).alloc _)) h2;rw [hP] at r1;clear h1 h2))
    obtain⟨PR,hPR⟩:∃ PR,PR=[]++l.filter (fun e=>ltB e.key key) ++ [(⟨key,m⟩:Ent)]:=⟨_,rfl⟩
    have HPR:Hid (PR++l.filter (fun e=>ltB key e.key)=B6 l key m):=AC (by rw [hPR,B6,if_neg (by intro e;rw [e] at hN;simp at hN;omega)];simp)
    have hPL:PR.length≤1001:=by rw [hPR];have:=List.length_filter_le (fun e:Ent=>ltB e.key key) l;simp;omega
    have hpre:OwnE w.heap.size w1 v1 PR:=by rw [hPR];exact r1
    have qp:=b1
    clear q hPR r1 b1 hr hf hP
    go_wp2_with fail
    go_loopw [8,10] (fun O I wr=>∃ i:Nat,i≤l.length∧I=.int .i64 i∧OwnE w.heap.size wr O (PR++(l.take i).filter (fun e=>ltB key e.key))∧Q w wr) (fun _ I _=>l.length - (intOf I).toNat)
    case atStart=>exact⟨0,Nat.zero_le _,rfl,by simpa using hpre,qp⟩
    case round=>
     obtain⟨i,hil,rfl,hown,q⟩:=hrel
     by_cases hlt:i<l.length
     ·obtain⟨a,c',hv,ha,A2,c2,hvs,hat⟩:=HT.out.pick i hlt
      injection hv with e1 e2 e3
      subst e1 e3
      have hok:=HS.out.2 _ (List.getElem_mem hlt)
      have hov:=HO.out _ (List.getElem_mem hlt)
      have hilt:(i:Int)<(l.length:Int):=by omega
      have HF:=E7 l i hlt (fun e=>ltB key e.key)
      obtain⟨d0,d1⟩:=hat _ q
      obtain⟨x,hx⟩:∃ x,x=l[i]:=⟨_,rfl⟩
      rw [← hx] at d0 d1 hvs hok HF hov
      clear hx hat
      cases hb:ltB key x.key with
      | true=>
        have HW:=AC (HF.1 hb)
        clear HF
        have hg:=(ES x.key key).trans hb
        have h3:(Op.bytesLess x.key.toList key.toList||x.key.toList==key.toList)=false:=by simpa using hg
        unfold ltB at hb
        have AX:Apt w.heap.size wr (.slice A2 x.L.length c2) x.L:=⟨hov,by unfold maxLen;omega,.inl (hvs.below q)⟩
        obtain⟨P,hP,hr,hf⟩:=hown
        have hPl:P.length≤3000:=by rw [← List.length_map (f:=(·.1)),hP,List.length_append];have k1:=Iv l i (fun e=>ltB key e.key);have k2:(PR:List Ent).length≤1001:=(by first | assumption | simp);omega
        have hs:=q.size
        have hq:x.key.size≤maxLen:=by unfold maxLen;omega
        go_wp2_with (first | (at_builtin;refine wpList_append_own _ rfl _ _ 22 rfl w.heap.size 79 i0 (.agg #[.string ⟨#[]⟩,.slice none 0 0]) 2 40 Tryz.underlying22 hi hz0 hz1 hz2 rfl (by decide) _ _ _ rfl (World.ownsRow.alloc hr _) ⟨wr.heap.size,0,none⟩ 1 1 (AY (x,(.slice A2 x.L.length c2))) rfl rfl (CQ wr (x,(.slice A2 x.L.length c2)) _) (Bq ⟨_,_,_,rfl⟩) (by unfold maxLen;omega) (by omega) (by simp;omega) ?_;intro v1 w1 h1 h2 _;have r1:=DP (x:=x) hr hf hq AX h1 h2 hs;have b1:Q w w1:=CI (q.alloc _) (by simp;omega) (RowE.on hr ((Q.refl wr).alloc _)) h2;rw [hP] at r1;clear h1 h2))
        rw [List.append_assoc,← HW.out] at r1
        go_roundw
        case rel=>exact⟨i+1,by omega,by go_num,r1,b1⟩
        case measure=>simp [intOf];omega
      | false=>
        have HW:=AC (HF.2 hb)
        clear HF
        have hg:=(ES x.key key).trans hb
        have h3:(Op.bytesLess x.key.toList key.toList||x.key.toList==key.toList)=true:=by revert hg;cases (Op.bytesLess x.key.toList key.toList||x.key.toList==key.toList) <;> simp
        unfold ltB at hb
        clear d1 hvs
        go_wp2_with fail
        go_roundw
        case rel=>exact⟨i+1,by omega,by go_num,by rw [HW.out];exact hown,q⟩
        case measure=>simp [intOf];omega
     ·have h2:¬ (i:Int)<(l.length:Int):=by omega
      rw [List.take_of_length_le (by omega)] at hown
      obtain⟨A9,c9,rfl⟩:=hown.len
      have HW:=AC hown
      obtain⟨n,hn⟩:∃ n,(PR++l.filter (fun e=>ltB key e.key)).length=n:=⟨_,rfl⟩
      have HN:=AC hn
      rw [hn]
      clear hown hn
      by_cases h60:n≤60
      ·have h60':¬ (60:Int)<(n:Int):=by omega
       go_wp2
       go_ret2
       refine⟨_,B6 l key m,_,rfl,.inr ⟨?_,rfl,rfl⟩,?_,q⟩
       ·rw [← HPR.out,HN.out];exact h60
       ·rw [← HPR.out];rw [← HN.out];exact HW.out.ents q.size
      ·have h60':(60:Int)<(n:Int):=by omega
       go_wp2
       go_ret2
       refine⟨_,_,_,rfl,.inl ⟨?_,rfl,rfl⟩,Ents.nil _ _,q⟩
       rw [← HPR.out,HN.out];first | assumption | omega
end
section
open Go.ChangeShapes Go.WideShapes Go.ChangeAt Go.RowKit
theorem Q.trans'{a b c:World}(h:Q a b)(k:Below a.heap.size b c):Q a c:=Below.trans h k
theorem Ents.cutTake{w:World}{B:Nat}{A:Option Addr}{n c:Nat}{l:List Ent}(h:Ents w B (.slice A n c) l){i:Nat}(hi:i≤l.length):Ents w B (.slice A i i) (l.take i):=by
 obtain⟨A,c',e,e0,ez,eo,f⟩:=h
 injection e with e1 e2 e3
 subst e1 e2 e3
 have hlen:(l.take i).length=i:=by rw [List.length_take];omega
 refine⟨_,_,by rw [hlen],by omega,(fun hA=>by have:=ez hA;omega),fun x hx=>eo x (List.mem_of_mem_take hx),fun k hk=>?_⟩
 obtain⟨a',e1,e2,e3⟩:=f k (by omega)
 exact⟨a',e1,e2,by rw [List.getElem_take];exact e3⟩
theorem Ents.cutDrop{w:World}{B:Nat}{a:Addr}{n c:Nat}{l:List Ent}(h:Ents w B (.slice (some a) n c) l){i:Nat}(hi:i≤l.length):Ents w B (.slice (some (a.add (i*2))) (l.length - i) (c - i)) (l.drop i):=by
 obtain⟨A,c',e,e0,ez,eo,f⟩:=h
 injection e with e1 e2 e3
 subst e1 e2 e3
 have hlen:(l.drop i).length=l.length - i:=by rw [List.length_drop]
 refine⟨_,_,by rw [hlen],by omega,(by simp),fun x hx=>eo x (List.mem_of_mem_drop hx),fun k hk=>?_⟩
 rw [hlen] at hk
 obtain⟨a',e1,e2,e3⟩:=f (i+k) (by omega)
 injection e1 with e1
 subst e1
 refine⟨_,rfl,by rw [AG];exact e2,?_⟩
 rw [Addr.add_add,List.getElem_drop,← Nat.add_mul];exact e3
theorem Ents.cutEnd{w:World}{B:Nat}{A:Option Addr}{l:List Ent}(hl:l=[]):Ents w B (.slice A 0 0) l:=by
 subst hl
 exact⟨_,_,rfl,Nat.le_refl _,(by simp),by simp,fun k h=>absurd h (by simp)⟩
def Lows(base:Nat)(w:World)(P:List (Ent×Value)):Prop:=∀ p∈P,p.1.key.size≤maxLen∧p.1.L.length≤maxLen∧Vers w base p.2 p.1.L
theorem Lows.below{base:Nat}{w w':World}{P:List (Ent×Value)}(h:Lows base w P)(k:Below base w w'):Lows base w' P:=fun p hp=>⟨(h p hp).1,(h p hp).2.1,(h p hp).2.2.below k⟩
theorem Lows.shapes{base:Nat}{w:World}{P:List (Ent×Value)}(h:Lows base w P):shapes P:=fun p hp=>by
 obtain⟨A,c,e⟩:=(h p hp).2.2.form;exact⟨A,_,c,e⟩
theorem Bs(w:World)(base:Nat)(t ty:TypeId)(htt:Tryz.prog.underlying t=some (.slice 79))(v:Value)(P:List (Ent×Value))(m:List Ent){A:Option Addr}{n c:Nat}(h:RowE base w v P)(hP:Lows base w P)
  (g:Ents w base (.slice A n c) m) (hb:base≤w.heap.size) (hl:P.length+m.length≤4000) :
  ∃ v' w' R,(Builtin.append_ #[t,t] ty #[v,.slice A n c]).run Tryz.prog w=.ok v' w'∧R.map (·.1)=m∧RowE base w' v' (P++R)∧Lows base w' (P++R)∧Below base w w':=by
 obtain⟨i0,hi0,hz0,hz1,hz2⟩:=info_parts ER
 have hn:n=m.length:=by obtain⟨A',c',e,-⟩:=g;injection e
 subst hn
 cases A with
 | none=>
   have hm:m=[]:=by
    obtain⟨A',c',e,e0,ez,-,-⟩:=g
    injection e with e1 e2 e3
    have:=ez e1.symm
    exact List.length_eq_zero_iff.1 (by omega)
   subst hm
   have hc:c=0:=by
    obtain⟨A',c',e,e0,ez,-,-⟩:=g
    injection e with e1 e2 e3
    rw [e3];exact ez e1.symm
   subst hc
   exact⟨v,w,[],run_append_owned_none (P:=Tryz.prog) (w:=w) base t ty 79 i0 2 htt hi0 v _ _ h,rfl,by simpa using h,by simpa using hP,Below.refl _ _⟩
 | some a=>
   obtain⟨R,hR,hf,hc⟩:=g.flat
   have hRl:R.length=m.length:=by rw [← hR,List.length_map]
   have hR2:Lows base w R:=hf
   obtain⟨v',w',h1,h2,h3,-⟩:=run_append_own (P:=Tryz.prog) w base t ty 79 i0 (.agg #[.string ⟨#[]⟩,.slice none 0 0]) 2 40 htt hi0 hz0 hz1 hz2 rfl (by decide) v P.length (P.flatMap AY) h a m.length c (R.flatMap AY) (by rw [CY,hRl]) hc (M8 hR2.shapes) (by unfold maxLen;omega) (by omega) hb
   have b:Below base w w':=(Below.refl base w).grown h3 hb (fun k hk=>(World.ownsRow.lt h k hk).1)
   refine⟨v',w',R,h1,hR,RowE.onto (R:=R) h2 hRl.symm,fun p hp=>?_,b⟩
   rcases List.mem_append.1 hp with hp | hp
   ·exact(hP.below b) p hp
   ·exact(hR2.below b) p hp
def Cat(base:Nat)(w:World)(v:Value)(l:List Ent):Prop:=
 (Ents w base v l∧∃ A,v=.slice A l.length l.length)∨(∃ P,P.map (·.1)=l∧RowE base w v P∧Lows base w P)
theorem Cat.read{base:Nat}{w w':World}{A:Option Addr}{n:Nat}{l:List Ent}(h:Ents w base (.slice A n n) l)(k:Below base w w')(hn:l.length=n):Cat base w' (.slice A n n) l:=.inl ⟨h.below k,A,by rw [hn]⟩
theorem Cat.ents{base:Nat}{w:World}{v:Value}{l:List Ent}(h:Cat base w v l)(hb:base≤w.heap.size):Ents w w.heap.size v l:=by
 rcases h with⟨h,-⟩ | ⟨P,rfl,r,f⟩
 ·exact h.more hb
 ·exact r.ents hb fun p hp=>⟨(f p hp).1,(f p hp).2.1,(f p hp).2.2.more hb⟩
theorem FY(w:World)(base:Nat)(t ty:TypeId)(htt:Tryz.prog.underlying t=some (.slice 79))(v:Value)(l m:List Ent){A:Option Addr}{n c:Nat}(h:Cat base w v l)
  (g:Ents w base (.slice A n c) m) (hb:base≤w.heap.size) (hl:l.length+m.length≤4000) :
  ∃ v' w',(Builtin.append_ #[t,t] ty #[v,.slice A n c]).run Tryz.prog w=.ok v' w'∧Cat base w' v' (l++m)∧Below base w w':=by
 rcases h with⟨h,B,rfl⟩ | ⟨P,rfl,r,f⟩
 ·obtain⟨i0,hi0,hz0,hz1,hz2⟩:=info_parts ER
  have hn:n=m.length:=by obtain⟨A',c',e,-⟩:=g;injection e
  subst hn
  by_cases hm:m=[]
  ·subst hm
   have hrun:(Builtin.append_ #[t,t] ty #[.slice B l.length l.length,.slice A ([]:List Ent).length c]).run Tryz.prog w=.ok (.slice B l.length l.length) w:=by
    cases A <;> cases B <;> simp [Builtin.append_,run_underlying htt,sizeOf,typeInfo,hi0,Builtin.lenOf,Builtin.firstCells,loadCells,loadCellsFrom,storeCells]
   exact⟨_,_,hrun,by rw [List.append_nil];exact .inl ⟨h,B,rfl⟩,Below.refl _ _⟩
  ·have hml:0<m.length:=List.length_pos_iff.2 hm
   cases B with
   | none=>
     have hl0:l=[]:=by
      obtain⟨A',c',e,e0,ez,-,-⟩:=h
      injection e with e1 e2 e3
      exact List.length_eq_zero_iff.1 (by have:=ez e1.symm;omega)
     subst hl0
     obtain⟨v',w',R,h1,h2,h3,h4,h5⟩:=Bs w base t ty htt (.slice none 0 0) [] m (World.ownsRow_nil w _ _ _) (by intro p hp;simp at hp) g hb (by simp at hl ⊢;omega)
     exact⟨v',w',h1,.inr ⟨R,h2,h3,h4⟩,h5⟩
   | some b=>
     cases A with
     | none=>
       exfalso
       obtain⟨A',c',e,e0,ez,-,-⟩:=g
       injection e with e1 e2 e3
       have:=ez e1.symm
       omega
     | some a=>
       obtain⟨P,hP,hf,hc⟩:=h.flat
       obtain⟨R,hR,hf2,hc2⟩:=g.flat
       have hPl:P.length=l.length:=by rw [← hP,List.length_map]
       have hRl:R.length=m.length:=by rw [← hR,List.length_map]
       have hR2:Lows base w R:=hf2
       have hP2:Lows base w P:=hf
       obtain⟨v',w',h1,h2,h3⟩:=run_append_arg_grows (P:=Tryz.prog) w t ty 79 i0 (.agg #[.string ⟨#[]⟩,.slice none 0 0]) 2 40 htt hi0 hz0 hz1 hz2 rfl (by decide) b l.length l.length (P.flatMap AY) (by rw [CY,hPl]) hc a m.length c (R.flatMap AY) (by rw [CY,hRl]) hc2 (by omega) (by unfold maxLen;omega) (by omega)
       have b':Below base w w':=(Below.refl base w).grown h3 hb (by simp)
       have r:RowE base w' v' (P++R):=by
        refine RowE.onto (R:=R) (k:=m.length) ?_ hRl.symm
        rw [hPl]
        rcases h2.2 with⟨rfl,h0⟩ | ⟨g,cap,cur,rfl,hb',rest⟩
        ·exact⟨h2.1,.inl ⟨rfl,h0⟩⟩
        ·exact⟨h2.1,.inr ⟨g,cap,cur,rfl,by omega,rest⟩⟩
       refine⟨v',w',h1,.inr ⟨P++R,by rw [List.map_append,hP,hR],r,fun p hp=>?_⟩,b'⟩
       rcases List.mem_append.1 hp with hp | hp
       ·exact(hP2.below b') p hp
       ·exact(hR2.below b') p hp
 ·obtain⟨v',w',R,h1,h2,h3,h4,h5⟩:=Bs w base t ty htt v P m r f g hb (by rw [List.length_map] at hl;exact hl)
  exact⟨v',w',h1,.inr ⟨P++R,by rw [List.map_append,h2],h3,h4⟩,h5⟩
theorem Au{o:Oper}{a:Act}{K:Act→World→Prop}{Q0:Exit→Act→World→Prop}(w:World)(s x:Operand)(t:TypeId)
  (ho:o.op=.call {callee:=.builtin .append,args:=#[s,x],argTypes:=#[t,t]}) (htt:Tryz.prog.underlying t=some (.slice 79))
  (base:Nat) (v:Value) (l m:List Ent) {A:Option Addr} {n c:Nat} (hs:a.eval s=v) (hx:a.eval x=.slice A n c) (h:Cat base w v l)
  (g:Ents w base (.slice A n c) m) (hb:base≤w.heap.size) (hl:l.length+m.length≤4000)
  (k:∀ v' w',Cat base w' v' (l++m)→Below base w w'→K (a.put o.dst v') w'):o.wp Tryz.prog a w K Q0:=by
 obtain⟨v',w',h1,h2,h3⟩:=FY w base t o.type htt v l m h g hb hl
 unfold Oper.wp execOp
 simp only [ho,resolve,invoke,builtin,Sem.run_bind,Sem.run_pure,Result.andThen_ok,List.map_toArray,List.map_cons,List.map_nil,hs,hx,h1]
 exact k v' w' h2 h3
theorem DK{ops:Array Oper}{rest:List Oper}{o:Oper}{a:Act}{Q0:Exit→Act→World→Prop}(w:World)(hgd:o.guard=none)(s x:Operand)(t:TypeId)
  (htt:Tryz.prog.underlying t=some (.slice 79)) (ho:o.op=.call {callee:=.builtin .append,args:=#[s,x],argTypes:=#[t,t]})
  (base:Nat) (v:Value) (P:List (Ent×Value)) (m:List Ent) {A:Option Addr} {n c:Nat} (hs:a.eval s=v) (hx:a.eval x=.slice A n c) (h:RowE base w v P) (hP:Lows base w P)
  (g:Ents w base (.slice A n c) m) (hb:base≤w.heap.size) (hl:P.length+m.length≤4000)
  (k:∀ v' w' R,R.map (·.1)=m→RowE base w' v' (P++R)→Lows base w' (P++R)→Below base w w'→wpList Tryz.prog ops Q0 rest (a.put o.dst v') w'):wpList Tryz.prog ops Q0 (o :: rest) a w:=by
 refine wpList_plain hgd fun K hK=>?_
 obtain⟨v',w',R,h1,h2,h3,h4,h5⟩:=Bs w base t o.type htt v P m h hP g hb hl
 unfold Oper.wp execOp
 simp only [ho,resolve,invoke,builtin,Sem.run_bind,Sem.run_pure,Result.andThen_ok,List.map_toArray,List.map_cons,List.map_nil,hs,hx,h1]
 exact hK _ _ (k v' w' R h2 h3 h4 h5)
theorem SQ(l inn:List Ent)(x:Value)(w:World)(hl:l.length≤1000)(hin:inn.length≤1000)(h1:0≤0)(h2:0≤l.length)(hx:Ents w w.heap.size x inn)(ht:Ents w w.heap.size (.slice none l.length 0) l)(h0:l.length=0):
  Calls Tryz.prog 174 #[.slice none l.length 0,.int .i64 0,.int .i64 0,x] w fun e w'=>∃ v',e=.returned v'∧Ents w' w'.heap.size v' (l.take 0++inn++l.drop 0)∧Q w w':=by
 have hlc:l.length≤0:=by
  obtain⟨A,c',e,e0,-⟩:=ht
  injection e with e1 e2 e3
  omega
 have T1:Hid (Ents w w.heap.size (.slice none 0 0) (l.take 0)):=AC (by have:=ht.cutTake (i:=0) (by omega);exact this)
 have T2:Hid (Ents w w.heap.size (.slice none 0 0) (l.drop 0)):=AC (by exact Ents.cutEnd (List.drop_eq_nil_iff.2 (by omega)))
 have HX:=AC hx
 obtain⟨Ax,cx,rfl⟩:=hx.form
 obtain⟨N,hN⟩:∃ N,inn.length=N:=⟨_,rfl⟩
 rw [hN] at HX ⊢
 have HN:=AC hN
 clear hN hx
 have q0:Q w w.drew:=(Q.refl w).drew
 have SN:Hid ((fun w'=>Q w w') w.drew):=AC q0
 have k1:(0:Int)≤(0:Int):=by omega
 have k2:(0:Int)≤0:=by omega
 have k3:(0:Int)≤(0:Int):=by omega
 have k4:(0:Int)≤(l.length:Int):=by omega
 clear ht
 go_enter Tryz.func174,Tryz.ntmps174
 go_wp2_with fail
 refine wp_region_held_drew (S:=(fun w'=>Q w w')) (by kernel_rfl) SN.out (fun hHeld=>?_)
 refine tkV 0 ?_
 refine tkV 1 ?_
 refine tkV 2 ?_
 refine tkB 3 (.slice none 0 0) ?_
 refine tkV 4 ?_
 refine tkV 6 ?_
 refine tkV 7 ?_
 refine tkB 8 (.slice none 0 0) ?_
 refine aR [5] ?_
 refine aC rfl (fun K hK=>?_) aN
 rw [if_pos (by rfl)]
 refine Au _ _ _ 22 rfl Tryz.underlying22 w.heap.size _ (l.take 0) inn rfl rfl (Cat.read T1.out (Q.refl w).drew (by rw [List.length_take];omega)) (HX.out.below (Q.refl w).drew) (Nat.le_refl _) (by have:=HN.out;rw [List.length_take];omega) ?_
 intro v1 w1 o1 b1
 have s1:=b1.size
 refine hK.out _ _ (by exact q0.trans b1) (fun hHeld=>?_)
 clear hK K
 refine pg ?_
 refine aR [9] ?_
 refine aC rfl (fun K hK=>?_) aN
 rw [if_pos (by rfl)]
 refine Au _ _ _ 22 rfl Tryz.underlying22 w.heap.size _ (l.take 0++inn) (l.drop 0) rfl rfl o1 (T2.out.below (q0.trans b1)) s1 (by have:=HN.out;rw [List.length_append,List.length_take,List.length_drop];omega) ?_
 intro v2 w2 o2 b2
 have b3:Q w w2:=(q0.trans b1).trans' b2
 refine hK.out _ _ b3 (fun hHeld=>?_)
 clear hK K
 refine pg ?_
 refine tkV 10 ?_
 refine wpAnyH_done (by kernel_rfl) ?_ _
 go_wp2
 go_ret
 exact⟨_,rfl,o2.ents b3.size,b3⟩
theorem SR(l inn:List Ent)(a:Addr)(c lo hi:Nat)(x:Value)(w:World)(hl:l.length≤1000)(hin:inn.length≤1000)(h1:lo≤hi)(h2:hi≤l.length)(hx:Ents w w.heap.size x inn)(ht:Ents w w.heap.size (.slice (some a) l.length c) l)(hc:c=hi):
  Calls Tryz.prog 174 #[.slice (some a) l.length c,.int .i64 (lo:Nat),.int .i64 (hi:Nat),x] w fun e w'=>∃ v',e=.returned v'∧Ents w' w'.heap.size v' (l.take lo++inn++l.drop hi)∧Q w w':=by
 have hcl:l.length=c:=by
  obtain⟨A,c',e,e0,-⟩:=ht
  injection e with e1 e2 e3
  omega
 have hcn:c - hi=0:=by omega
 have hlc:l.length≤c:=by
  obtain⟨A,c',e,e0,-⟩:=ht
  injection e with e1 e2 e3
  omega
 have T1:Hid (Ents w w.heap.size (.slice (some a) lo lo) (l.take lo)):=AC (by have:=ht.cutTake (i:=lo) (by omega);exact this)
 have T2:Hid (Ents w w.heap.size (.slice (some a) 0 0) (l.drop hi)):=AC (by exact Ents.cutEnd (List.drop_eq_nil_iff.2 (by omega)))
 have HX:=AC hx
 obtain⟨Ax,cx,rfl⟩:=hx.form
 obtain⟨N,hN⟩:∃ N,inn.length=N:=⟨_,rfl⟩
 rw [hN] at HX ⊢
 have HN:=AC hN
 clear hN hx
 have q0:Q w w.drew:=(Q.refl w).drew
 have SN:Hid ((fun w'=>Q w w') w.drew):=AC q0
 have k1:(0:Int)≤(lo:Int):=by omega
 have k2:(lo:Int)≤((c:Nat):Int):=by omega
 have k3:(0:Int)≤(hi:Int):=by omega
 have k4:(hi:Int)≤(l.length:Int):=by omega
 clear ht
 go_enter Tryz.func174,Tryz.ntmps174
 go_wp2_with fail
 refine wp_region_held_drew (S:=(fun w'=>Q w w')) (by kernel_rfl) SN.out (fun hHeld=>?_)
 refine tkV 0 ?_
 refine tkV 1 ?_
 refine tkV 2 ?_
 refine tkB 3 (.slice (some a) lo lo) ?_
 refine tkV 4 ?_
 refine tkV 6 ?_
 refine tkV 7 ?_
 refine tkB 8 (.slice (some a) 0 0) ?_
 refine aR [5] ?_
 refine aC rfl (fun K hK=>?_) aN
 rw [if_pos (by rfl)]
 refine Au _ _ _ 22 rfl Tryz.underlying22 w.heap.size _ (l.take lo) inn rfl rfl (Cat.read T1.out (Q.refl w).drew (by rw [List.length_take];omega)) (HX.out.below (Q.refl w).drew) (Nat.le_refl _) (by have:=HN.out;rw [List.length_take];omega) ?_
 intro v1 w1 o1 b1
 have s1:=b1.size
 refine hK.out _ _ (by exact q0.trans b1) (fun hHeld=>?_)
 clear hK K
 refine pg ?_
 refine aR [9] ?_
 refine aC rfl (fun K hK=>?_) aN
 rw [if_pos (by rfl)]
 refine Au _ _ _ 22 rfl Tryz.underlying22 w.heap.size _ (l.take lo++inn) (l.drop hi) rfl rfl o1 (T2.out.below (q0.trans b1)) s1 (by have:=HN.out;rw [List.length_append,List.length_take,List.length_drop];omega) ?_
 intro v2 w2 o2 b2
 have b3:Q w w2:=(q0.trans b1).trans' b2
 refine hK.out _ _ b3 (fun hHeld=>?_)
 clear hK K
 refine pg ?_
 refine tkV 10 ?_
 refine wpAnyH_done (by kernel_rfl) ?_ _
 go_wp2
 go_ret
 exact⟨_,rfl,o2.ents b3.size,b3⟩
theorem TQ(l inn:List Ent)(a:Addr)(c lo hi:Nat)(x:Value)(w:World)(hl:l.length≤1000)(hin:inn.length≤1000)(h1:lo≤hi)(h2:hi≤l.length)(hx:Ents w w.heap.size x inn)(ht:Ents w w.heap.size (.slice (some a) l.length c) l)(hc:c≠hi):
  Calls Tryz.prog 174 #[.slice (some a) l.length c,.int .i64 (lo:Nat),.int .i64 (hi:Nat),x] w fun e w'=>∃ v',e=.returned v'∧Ents w' w'.heap.size v' (l.take lo++inn++l.drop hi)∧Q w w':=by
 have hlc:l.length≤c:=by
  obtain⟨A,c',e,e0,-⟩:=ht
  injection e with e1 e2 e3
  omega
 have T1:Hid (Ents w w.heap.size (.slice (some a) lo lo) (l.take lo)):=AC (by have:=ht.cutTake (i:=lo) (by omega);exact this)
 have T2:Hid (Ents w w.heap.size (.slice (some (a.add (hi*2))) (l.length - hi) (c - hi)) (l.drop hi)):=AC (by exact ht.cutDrop (by omega))
 have HX:=AC hx
 obtain⟨Ax,cx,rfl⟩:=hx.form
 obtain⟨N,hN⟩:∃ N,inn.length=N:=⟨_,rfl⟩
 rw [hN] at HX ⊢
 have HN:=AC hN
 clear hN hx
 have q0:Q w w.drew:=(Q.refl w).drew
 have SN:Hid ((fun w'=>Q w w') w.drew):=AC q0
 have k1:(0:Int)≤(lo:Int):=by omega
 have k2:(lo:Int)≤((c:Nat):Int):=by omega
 have k3:(0:Int)≤(hi:Int):=by omega
 have k4:(hi:Int)≤(l.length:Int):=by omega
 clear ht
 go_enter Tryz.func174,Tryz.ntmps174
 go_wp2_with fail
 refine wp_region_held_drew (S:=(fun w'=>Q w w')) (by kernel_rfl) SN.out (fun hHeld=>?_)
 refine tkV 0 ?_
 refine tkV 1 ?_
 refine tkV 2 ?_
 refine tkB 3 (.slice (some a) lo lo) ?_
 refine tkV 4 ?_
 refine tkV 6 ?_
 refine tkV 7 ?_
 refine tkB 8 (.slice (some (a.add (hi*2))) (l.length - hi) (c - hi)) ?_
 refine aR [5] ?_
 refine aC rfl (fun K hK=>?_) aN
 rw [if_pos (by rfl)]
 refine Au _ _ _ 22 rfl Tryz.underlying22 w.heap.size _ (l.take lo) inn rfl rfl (Cat.read T1.out (Q.refl w).drew (by rw [List.length_take];omega)) (HX.out.below (Q.refl w).drew) (Nat.le_refl _) (by have:=HN.out;rw [List.length_take];omega) ?_
 intro v1 w1 o1 b1
 have s1:=b1.size
 refine hK.out _ _ (by exact q0.trans b1) (fun hHeld=>?_)
 clear hK K
 refine pg ?_
 refine aR [9] ?_
 refine aC rfl (fun K hK=>?_) aN
 rw [if_pos (by rfl)]
 refine Au _ _ _ 22 rfl Tryz.underlying22 w.heap.size _ (l.take lo++inn) (l.drop hi) rfl rfl o1 (T2.out.below (q0.trans b1)) s1 (by have:=HN.out;rw [List.length_append,List.length_take,List.length_drop];omega) ?_
 intro v2 w2 o2 b2
 have b3:Q w w2:=(q0.trans b1).trans' b2
 refine hK.out _ _ b3 (fun hHeld=>?_)
 clear hK K
 refine pg ?_
 refine tkV 10 ?_
 refine wpAnyH_done (by kernel_rfl) ?_ _
 go_wp2
 go_ret
 exact⟨_,rfl,o2.ents b3.size,b3⟩
theorem SS(l inn:List Ent)(lo hi:Nat)(v x:Value)(w:World)(hl:l.length≤1000)(hin:inn.length≤1000)(h1:lo≤hi)(h2:hi≤l.length)(hx:Ents w w.heap.size x inn)(ht:Ents w w.heap.size v l):
  Calls Tryz.prog 174 #[v,.int .i64 (lo:Nat),.int .i64 (hi:Nat),x] w fun e w'=>∃ v',e=.returned v'∧Ents w' w'.heap.size v' (l.take lo++inn++l.drop hi)∧Q w w':=by
 obtain⟨A,c,rfl⟩:=ht.form
 cases A with
 | none=>
   have hc:c=0∧l.length=0:=by
    obtain⟨A',c',e,e0,ez,-,-⟩:=ht
    injection e with e1 e2 e3
    have:=ez e1.symm
    exact⟨by omega,by omega⟩
   obtain⟨rfl,h0⟩:=hc
   have e1:lo=0:=by omega
   have e2:hi=0:=by omega
   subst e1 e2
   exact SQ l inn x w hl hin h1 h2 hx ht h0
 | some a=>
   by_cases hc:c=hi
   ·exact SR l inn a c lo hi x w hl hin h1 h2 hx ht hc
   ·exact TQ l inn a c lo hi x w hl hin h1 h2 hx ht hc
def Hi(key:ByteArray)(m:List Ver):List Ent:=if m=[] then[] else[⟨key,m⟩]
theorem Iy(key:ByteArray)(m:List Ver)(v:Value)(w:World)(hk:key.size≤maxLen)(hm:m.length≤1000)(ht:Vers w w.heap.size v m):
  Calls Tryz.prog 175 #[.string key,v] w fun e w'=>∃ v',e=.returned v'∧Ents w' w'.heap.size v' (Hi key m)∧Q w w':=by
 have HT:=AC ht
 obtain⟨A,c,rfl⟩:=ht.form
 obtain⟨N,hN⟩:∃ N,m.length=N:=⟨_,rfl⟩
 rw [hN] at HT hm ⊢
 by_cases h0:N=0
 ·have HV:Hid (Hi key m=[]):=AC (if_pos (List.length_eq_zero_iff.1 (by omega)))
  have hz:(N:Int)=0:=by omega
  clear ht hN
  subst h0
  go_enter Tryz.func175,Tryz.ntmps175
  go_wp2
  go_ret
  exact⟨_,rfl,by rw [HV.out];exact Ents.nil _ _,Q.refl _⟩
 ·have HV:Hid (Hi key m=[⟨key,m⟩]):=AC (if_neg (by rintro rfl;simp at hN;omega))
  have HN:=AC hN
  have hz:¬ (N:Int)=0:=by omega
  have q0:Q w (w.alloc (.cells #[.string key,.slice A N c] 79)):=(Q.refl w).alloc _
  have HE:Hid (Ents (w.alloc (.cells #[.string key,.slice A N c] 79)) (w.alloc (.cells #[.string key,.slice A N c] 79)).heap.size (.slice (some ⟨w.heap.size,0,none⟩) 1 1) [⟨key,m⟩]):=AC (by
   refine⟨_,_,rfl,Nat.le_refl _,(by simp),?_,fun k hk=>?_⟩
   ·intro x hx
    obtain rfl:x=⟨key,m⟩:=by simpa using hx
    exact⟨hk,by show m.length≤_;rw [HN.out];unfold maxLen;omega⟩
   ·have k0:k=0:=by simpa using hk
    subst k0
    refine⟨_,rfl,by simp,?_,.slice A N c,?_,HT.out.on q0⟩
    ·simp [Addr.add]
    ·simp [Addr.add])
  clear ht hN
  go_enter Tryz.func175,Tryz.ntmps175
  go_wp2
  go_ret
  exact⟨_,rfl,by rw [HV.out];exact HE.out,q0⟩
theorem Fy(l:List Ent)(v:Value)(w:World)(hl:l.length≤4000)(ht:Ents w w.heap.size v l):
  Calls Tryz.prog 137 #[v] w fun e w'=>∃ v' P,e=.returned v'∧P.map (·.1)=l∧RowE w.heap.size w' v' P∧Lows w.heap.size w' P∧Q w w':=by
 have HT:=AC ht
 obtain⟨A,c,rfl⟩:=ht.form
 cases A with
 | none=>
   have hc:c=0∧l=[]:=by
    obtain⟨A',c',e,e0,ez,-,-⟩:=ht
    injection e with e1 e2 e3
    have:=ez e1.symm
    exact⟨by omega,List.length_eq_zero_iff.1 (by omega)⟩
   obtain⟨rfl,rfl⟩:=hc
   simp only [List.length_nil]
   have he:=fun w=>Lib.run_eql_slice_nil (P:=Tryz.prog) w 22 79 none 0 0 0 0 Tryz.underlying22
   go_enter Tryz.func137,Tryz.ntmps137
   go_wp2
   go_ret
   exact⟨_,[],rfl,rfl,World.ownsRow_nil _ _ _ _,(by intro p hp;simp at hp),Q.refl _⟩
 | some a=>
   have q0:=(Q.refl w).alloc (.cells #[] 79)
   have hown:RowE w.heap.size (w.alloc (.cells #[] 79)) (.slice (some ⟨w.heap.size,0,none⟩) 0 0) []:=World.ownsRow_made w #[] 0 (Nat.le_refl _) (by unfold maxLen;omega) (by simp)
   have HO:=AC hown
   have he:=fun w=>Lib.run_eql_slice_nil (P:=Tryz.prog) w 22 79 (some a) l.length c 0 0 Tryz.underlying22
   clear ht hown
   go_enter Tryz.func137,Tryz.ntmps137
   go_wp2_with (at_builtin;refine DK _ rfl _ _ 22 Tryz.underlying22 rfl w.heap.size _ [] l rfl rfl HO.out (by intro p hp;simp at hp) (HT.out.below q0) ?hb ?ha ?_;(case hb=>simp);(case ha=>(try simp);omega);intro v2 w2 R2 m2 o2 f2 g2;have b2:=q0.trans' g2;clear g2)
   go_ret
   exact⟨_,_,rfl,m2,by simpa using o2,by simpa using f2,b2⟩
end
section
open Go.ChangeShapes Go.WideShapes Go.ChangeAt Go.RowKit
theorem Ol(P:List (Ent×Value))(k:Nat)(h:k<P.length)(u:Value):(P.set k (P[k].1,u)).flatMap AY=(P.flatMap AY).set (k*2+1) u:=by
 induction P generalizing k with
 | nil=>simp at h
 | cons x r ih=>
   cases k with
   | zero=>simp [AY]
   | succ k=>
     have hk:k<r.length:=by simpa using h
     rw [List.set_cons_succ,List.flatMap_cons,List.flatMap_cons,List.getElem_cons_succ,ih k hk,List.set_append_right _ _ (by rw [show(AY x).length=2 by rfl];omega)]
     rw [show(k+1)*2+1 - (AY x).length=k*2+1 by rw [show(AY x).length=2 by rfl];omega]
theorem FN(g k:Nat):(⟨((⟨g,0,none⟩:Addr).add (k*2)).block,((⟨g,0,none⟩:Addr).add (k*2)).off+1,none⟩:Addr)=⟨g,k*2+1,none⟩:=by
 unfold Addr.add
 split
 ·rename_i h0;simp [h0]
 ·simp
theorem MD{base:Nat}{w:World}{A:Option Addr}{n c:Nat}{P:List (Ent×Value)}(r:RowE base w (.slice A n c) P)(k:Nat)(hk:k<P.length):
  ∃ a:Addr,A=some a∧base≤a.block∧a.block<w.heap.size∧∀ d,Q w d→d.cell? (a.add (k*2))=some (.string P[k].1.key)∧d.cell? ⟨(a.add (k*2)).block,(a.add (k*2)).off+1,none⟩=some P[k].2∧d.frozen? ⟨(a.add (k*2)).block,(a.add (k*2)).off+1,none⟩=false:=by
 rcases r.2 with⟨h,h0⟩ | ⟨g,cap,cur,h,hb,hg,h1,h2,h3,h4⟩
 ·omega
 ·injection h with e1 e2 e3
  subst e1
  refine⟨⟨g,0,none⟩,rfl,hb,lt_of_block hg,fun d q=>?_⟩
  have hg':d.heap[g]?=some (.cells cur 79):=(Below.block q g (lt_of_block hg)).trans hg
  have r':RowE base d (.slice (some ⟨g,0,none⟩) n c) P:=r.on q
  have c0:=World.ownsRow.cells r' (g:=g) rfl (k*2+0) (.string P[k].1.key) (by rw [EU P k hk (by omega)];rfl)
  have c1:=World.ownsRow.cells r' (g:=g) rfl (k*2+1) P[k].2 (by rw [EU P k hk (by omega)];rfl)
  refine⟨c0,?_,?_⟩
  ·rw [FN];rw [Ai _ (by omega)] at c1;simpa using c1
  ·rw [FN];simp [World.frozen?,hg']
theorem Fi{base:Nat}{w:World}{a:Addr}{n c:Nat}{P:List (Ent×Value)}{u:Value}(r:RowE base w (.slice (some a) n c) P)(f:∀ p∈P,p.1.key.size≤maxLen∧Apt base w p.2 p.1.L)(k:Nat)(hk:k<P.length)(hu:Apt base w u P[k].1.L)(hb:base≤w.heap.size):
  OwnE base (w.setCell ⟨(a.add (k*2)).block,(a.add (k*2)).off+1,none⟩ u) (.slice (some a) n c) (P.map (·.1)):=by
 have r0:=r
 rcases r.2 with⟨h,h0⟩ | ⟨g,cap,cur,h,hb',hg,h1,h2,h3,h4⟩
 ·omega
 ·injection h with e1 e2 e3
  injection e1 with e1
  subst e1 e2 e3
  rw [FN]
  obtain⟨s1,s2⟩:=World.ownsRow.stored r (k*2+1) u
  have hlen:(P.set k (P[k].1,u)).length=P.length:=List.length_set
  have hmap:(P.set k (P[k].1,u)).map (·.1)=P.map (·.1):=by
   rw [List.map_set]
   refine List.ext_getElem (by simp) fun i hi1 hi2=>?_
   rw [List.getElem_set]
   split
   ·rename_i e;subst e;simp
   ·rfl
  refine⟨P.set k (P[k].1,u),hmap,?_,fun p hp=>?_⟩
  ·unfold RowE
   rw [Ol P k hk u,hlen];exact s1
  ·obtain⟨i,hi,rfl⟩:=List.getElem_of_mem hp
   rw [List.getElem_set]
   have hi':i<P.length:=by rw [hlen] at hi;exact hi
   split
   ·rename_i e;subst e
    exact⟨(f _ (List.getElem_mem hk)).1,hu.grown r0 s2 hb⟩
   ·exact⟨(f _ (List.getElem_mem hi')).1,(f _ (List.getElem_mem hi')).2.grown r0 s2 hb⟩
theorem Nv(l:List Ent)(v:Value)(w:World)(hl:l.length≤1000)(hm:∀ e∈l,e.L.length≤1000)(ht:Ents w w.heap.size v l):
  Calls Tryz.prog 176 #[v] w fun e w'=>∃ v',e=.returned v'∧Ents w' w'.heap.size v' l∧Q w w':=by
 have CL:=AC (Fy l v w (by omega) ht)
 have HM:=AC hm
 have HO:=AC ht.okVs
 obtain⟨A0,c0,rfl⟩:=ht.form
 clear ht hm
 go_enter Tryz.func176,Tryz.ntmps176
 go_wp2_with fail
 refine(CL.out).mono ?_
 rintro e w1 ⟨v1,P1,rfl,hP1,r1,f1,q1⟩
 have own1:OwnE w.heap.size w1 v1 l:=⟨P1,hP1,r1,fun p hp=>⟨(f1 p hp).1,by
  have hx:p.1∈l:=by rw [← hP1];exact List.mem_map.2 ⟨_,hp,rfl⟩
  exact HO.out _ hx,(f1 p hp).2.1,.inl (f1 p hp).2.2⟩⟩
 clear CL r1 f1 hP1 P1
 obtain⟨A,c,rfl⟩:=own1.len
 go_wp2_with fail
 go_loopw [10] (fun I wr=>∃ i:Nat,i≤l.length∧I=.int .i64 i∧OwnE w.heap.size wr (.slice A l.length c) l∧Q w wr) (fun I _=>l.length - (intOf I).toNat)
 case atStart=>exact⟨0,Nat.zero_le _,rfl,own1,q1⟩
 case round=>
  obtain⟨i,hil,rfl,hown,q⟩:=hrel
  clear own1 q1
  by_cases hlt:i<l.length
  ·obtain⟨P,hP,r,f⟩:=hown
   have hPl:P.length=l.length:=by rw [← hP,List.length_map]
   obtain⟨a,hA,ha1,ha2,hat⟩:=MD r i (by omega)
   subst hA
   have hpi:P[i]'(by omega)∈P:=List.getElem_mem _
   have hx1:(P[i]'(by omega)).1=l[i]:=by simp [← hP]
   have hx2:=HM.out _ (List.getElem_mem hlt)
   have ap0:=(f _ hpi).2
   rw [← hx1] at hx2
   obtain⟨x,hx⟩:∃ x,x=P[i]'(by omega):=⟨_,rfl⟩
   have HXX:=AC hx
   rw [← hx] at hat ap0 hx2
   obtain⟨x,u⟩:=x
   dsimp only at hat ap0 hx2
   clear hx hx1 hpi
   have hvs:=ap0.vers q.size
   obtain⟨A2,c2,rfl⟩:=hvs.form
   obtain⟨d0,d1,-⟩:=hat _ (Q.refl _)
   have HAT:=AC hat
   have CV:Hid (∀ d,Q wr d→Calls Tryz.prog 110 #[.slice A2 x.L.length c2] d fun e w'=>∃ v',e=.returned v'∧OwnV d.heap.size w' v' x.L∧Q d w'):=AC (fun d k=>Ds x.L _ d (by omega) (hvs.on k))
   have R:=AC r
   have F:=AC f
   have hok:=AC ap0.1
   have HP:=AC hP
   have hilt:(i:Int)<(l.length:Int):=by omega
   clear hat hvs ap0 r f hP
   go_wp2_with fail
   refine(CV.out _ ((Q.refl wr).alloc _)).mono ?_
   rintro e wc ⟨v3,rfl,o3,q3⟩
   obtain⟨A3,n3,c3,rfl⟩:∃ A n c,v3=.slice A n c:=by obtain⟨A,c,e⟩:=Ae o3;exact⟨A,_,c,e⟩
   have qc:Q wr wc:=((Q.refl wr).alloc _).trans q3
   obtain⟨e0,e1,e2⟩:=HAT.out _ qc
   have r3:=R.out.on qc
   have f3:∀ p∈P,p.1.key.size≤maxLen∧Apt w.heap.size wc p.2 p.1.L:=fun p hp=>⟨(F.out p hp).1,(F.out p hp).2.on qc q.size⟩
   have u3:Apt w.heap.size wc (.slice A3 n3 c3) (P[i]'(by omega)).1.L:=by
    rw [← HXX.out]
    exact⟨hok.out,by unfold maxLen;show x.L.length≤_;omega,.inr (OwnV.low o3 (by have:=q.size;simp;omega))⟩
   have s3:=Fi r3 f3 i (by omega) u3 ((q.trans qc).size)
   rw [HP.out] at s3
   have b3:Q w (wc.setCell ⟨(a.add (i*2)).block,(a.add (i*2)).off+1,none⟩ (.slice A3 n3 c3)):=Q.set (q.trans qc) (by rw [AG];exact ha1) _
   clear r3 f3 u3 o3
   go_wp2
   go_roundw
   case rel=>exact⟨i+1,by omega,by go_num,s3,b3⟩
   case measure=>simp [intOf];omega
  ·have h2:¬ (i:Int)<(l.length:Int):=by omega
   go_wp2
   go_ret
   exact⟨_,rfl,hown.ents q.size,q⟩
def OD(l:List Ent):Prop:=l.Pairwise (fun x y=>ltB x.key y.key=true)
theorem JO{l:List Ent}(h:okI l):OD l:=by
 refine List.pairwise_iff_getElem.2 fun i j hi hj hij=>?_
 obtain⟨d,rfl⟩:∃ d,j=i+d+1:=⟨j - i - 1,by omega⟩
 induction d with
 | zero=>exact(h.2 (i+1) hj).2.2.2 i rfl
 | succ d ih=>exact DT (ih (by omega) (by omega)) ((h.2 (i+(d+1)+1) hj).2.2.2 (i+d+1) rfl)
theorem Cr(l:List Ent)(h:OD l)(key:ByteArray):
  l=l.filter (fun e=>ltB e.key key)++l.filter (fun e=>decide (e.key=key))++l.filter (fun e=>ltB key e.key)∧(l.filter (fun e=>decide (e.key=key))).length≤1:=by
 induction l with
 | nil=>simp
 | cons x r ih=>
   obtain⟨h1,h2⟩:=List.pairwise_cons.1 h
   obtain⟨i1,i2⟩:=ih h2
   by_cases hx:ltB x.key key=true
   ·have n1:x.key≠key:=Fs hx
    have n2:ltB key x.key=false:=Hn hx
    refine⟨?_,by rw [List.filter_cons_of_neg (by simpa using n1)];exact i2⟩
    rw [List.filter_cons_of_pos (p:=fun e:Ent=>ltB e.key key) hx,List.filter_cons_of_neg (by simpa using n1),List.filter_cons_of_neg (by simp [n2])]
    simp only [List.cons_append]
    rw [← i1]
   ·have hx:ltB x.key key=false:=by simpa using hx
    have hle:∀ y∈r,ltB key y.key=true:=fun y hy=>by
     by_cases e:x.key=key
     ·rw [← e];exact h1 y hy
     ·exact DT (Eu e hx) (h1 y hy)
    have z1:r.filter (fun e=>ltB e.key key)=[]:=List.filter_eq_nil_iff.2 fun y hy=>by simp [Hn (hle y hy)]
    have z2:r.filter (fun e=>decide (e.key=key))=[]:=List.filter_eq_nil_iff.2 fun y hy=>by simpa using(Fs (hle y hy)).symm
    have z3:r.filter (fun e=>ltB key e.key)=r:=List.filter_eq_self.2 hle
    by_cases e:x.key=key
    ·have n2:ltB key x.key=false:=by rw [e];exact Br _
     rw [List.filter_cons_of_neg (by simp [hx]),List.filter_cons_of_pos (by simpa using e),List.filter_cons_of_neg (by simp [n2]),z1,z2,z3]
     simp
    ·rw [List.filter_cons_of_neg (by simp [hx]),List.filter_cons_of_neg (by simpa using e),List.filter_cons_of_pos (p:=fun y:Ent=>ltB key y.key) (Eu e hx),z1,z2,z3]
     simp
theorem Ph{l:List Ent}{key:ByteArray}(h:∀ j (hl:j<l.length),l[j].key≠key):l.filter (fun e=>decide (e.key=key))=[]:=
 List.filter_eq_nil_iff.2 fun y hy=>by
  obtain⟨k,hk,rfl⟩:=List.getElem_of_mem hy
  simpa using h k hk
theorem Q9{l:List Ent}(h:OD l)(key:ByteArray):l.take (atE l key)=l.filter (fun e=>ltB e.key key):=by
 have:=(Cr l h key).1
 conv=>lhs;arg 2;rw [this]
 rw [List.append_assoc,atE,List.take_left]
theorem Ry{l:List Ent}(h:OD l){key:ByteArray}(k:∀ j (hl:j<l.length),l[j].key≠key):l.drop (atE l key)=l.filter (fun e=>ltB key e.key):=by
 have:=(Cr l h key).1
 conv=>lhs;arg 2;rw [this]
 rw [List.append_assoc,atE,List.drop_left,Ph k,List.nil_append]
theorem QB{l:List Ent}(h:OD l){key:ByteArray}{i:Nat}(hi:i<l.length)(k:l[i].key=key):l.drop (atE l key+1)=l.filter (fun e=>ltB key e.key)∧atE l key+1≤l.length:=by
 obtain⟨h1,h2⟩:=Cr l h key
 have hm:l[i]∈l.filter (fun e=>decide (e.key=key)):=List.mem_filter.2 ⟨List.getElem_mem _,by simpa using k⟩
 have hl:(l.filter (fun e=>decide (e.key=key))).length=1:=by
  have:=List.length_pos_of_mem hm;omega
 have hs:(l.filter (fun e=>ltB e.key key)++l.filter (fun e=>decide (e.key=key))).length=atE l key+1:=by rw [List.length_append,hl,atE]
 refine⟨?_,?_⟩
 ·conv=>lhs;arg 2;rw [h1]
  rw [← hs,List.drop_left]
 ·have:=congrArg List.length h1
  rw [List.length_append,hs] at this
  omega
theorem Cu(l:List Ent)(key:ByteArray)(m:List Ver):B6 l key m=l.filter (fun e=>ltB e.key key)++Hi key m++l.filter (fun e=>ltB key e.key):=rfl
end
section
open Go.ChangeShapes Go.WideShapes Go.ChangeAt Go.RowKit
theorem O6(l:List Ent)(key:ByteArray)(m:List Ver)(v vc:Value)(w:World)(hno:¬ (okI l∧BD 1 60 ko key=true∧okP m))(hs:By l)(hk:key.size≤1000)(hm:m.length≤1000)(ht:Ents w w.heap.size v l)(hc:Vers w w.heap.size vc m):
  Calls Tryz.prog 156 #[v,.string key,vc] w fun e w'=>e=.returned (.tuple #[.slice none 0 0,.int .i64 1])∧Q w w':=by
 obtain⟨R,hR⟩:=Gk l
 obtain⟨C,hC⟩:=Gi m
 have M:=AC (Du l v w R hR hs ht)
 have K:=AC fun d=>Cn key d hk
 have CK:Hid (∀ d,Q w d→Calls Tryz.prog 94 #[vc] d fun e w'=>e=.returned (.int .i64 (Fz C))∧Q d w'):=AC (fun d q=>Cp m vc d C hC hm (hc.on q))
 obtain⟨A,c,rfl⟩:=ht.form
 obtain⟨Ac,cc,rfl⟩:=hc.form
 rcases hR with⟨rfl,o1⟩ | ⟨rfl,o1⟩
 ·rw [show Fz true=0 from rfl] at M
  cases hk1:BD 1 60 ko key with
  | true=>
    rw [hk1] at K
    rcases hC with⟨rfl,o2⟩ | ⟨rfl,o2⟩
    ·exact absurd ⟨o1,hk1,o2⟩ hno
    ·rw [show Fz false=1 from rfl] at CK
     clear hno o1 o2 hk1 ht hc
     go_enter Tryz.func156,Tryz.ntmps156
     go_wp2_with fail
     refine(M.out).mono ?_
     rintro e w1 ⟨rfl,q1⟩
     go_wp2_with fail
     refine(K.out _).mono ?_
     rintro e w2 ⟨rfl,q2⟩
     have q12:=q1.trans q2
     go_wp2_with fail
     refine(CK.out _ q12).mono ?_
     rintro e w3 ⟨rfl,q3⟩
     go_wp2
     go_ret2
     exact⟨rfl,q12.trans q3⟩
  | false=>
    rw [hk1] at K
    clear hno o1 hk1 ht hc
    go_enter Tryz.func156,Tryz.ntmps156
    go_wp2_with fail
    refine(M.out).mono ?_
    rintro e w1 ⟨rfl,q1⟩
    go_wp2_with fail
    refine(K.out _).mono ?_
    rintro e w2 ⟨rfl,q2⟩
    go_wp2
    go_ret2
    exact⟨rfl,q1.trans q2⟩
 ·rw [show Fz false=1 from rfl] at M
  clear hno o1 ht hc
  go_enter Tryz.func156,Tryz.ntmps156
  go_wp2_with fail
  refine(M.out).mono ?_
  rintro e w1 ⟨rfl,q1⟩
  go_wp2
  go_ret2
  exact⟨rfl,q1⟩
theorem JL(key:ByteArray)(m:List Ver):(Hi key m).length≤1:=by unfold Hi;split <;> simp
theorem JI{l:List Ent}{key:ByteArray}{m:List Ver}{e:Ent}(h:e∈B6 l key m):e∈l∨(e=⟨key,m⟩∧m≠[]):=by
 rw [Cu] at h
 rcases List.mem_append.1 h with h | h
 ·rcases List.mem_append.1 h with h | h
  ·exact .inl (List.mem_filter.1 h).1
  ·right
   unfold Hi at h
   split at h
   ·simp at h
   ·rename_i k;exact⟨by simpa using h,k⟩
 ·exact .inl (List.mem_filter.1 h).1
theorem MT(l:List Ent)(key:ByteArray)(m:List Ver)(v vc:Value)(w:World)(o1:okI l)(o2:BD 1 60 ko key=true)(o3:okP m)(hs:By l)(hk:key.size≤1000)(hm:m.length≤1000)(ht:Ents w w.heap.size v l)(hc:Vers w w.heap.size vc m):
  Calls Tryz.prog 156 #[v,.string key,vc] w fun e w'=>∃ v' L k,e=.returned (.tuple #[v',.int .i64 (k:Nat)])∧((60<(B6 l key m).length∧L=[]∧k=6)∨((B6 l key m).length≤60∧L=B6 l key m∧k=0))∧Ents w' w'.heap.size v' L∧Q w w':=by
 have M:=AC (Du l v w true (.inl ⟨rfl,o1⟩) hs ht)
 rw [show Fz true=0 from rfl] at M
 have K:=AC fun d=>Cn key d hk
 rw [o2] at K
 have CK:Hid (∀ d,Q w d→Calls Tryz.prog 94 #[vc] d fun e w'=>e=.returned (.int .i64 (Fz true))∧Q d w'):=AC (fun d q=>Cp m vc d true (.inl ⟨rfl,o3⟩) hm (hc.on q))
 rw [show Fz true=0 from rfl] at CK
 have hr:=JO o1
 have hl60:=o1.1
 have hl:=hs.1
 have AT:Hid (∀ d,Q w d→Calls Tryz.prog 173 #[v,.string key] d fun e w'=>e=.returned (.int .i64 (atE l key:Nat))∧Q d w'):=AC (fun d q=>TX l key v d hl (ht.on q))
 have PL:Hid (∀ d,Q w d→Calls Tryz.prog 109 #[v,.string key] d fun e w'=>e=.returned (.int .i64 (Gu (Cb key) l))∧Q d w'):=AC (fun d q=>Fl l v key d hl (ht.on q))
 have EN:Hid (∀ d,Q w d→Calls Tryz.prog 175 #[.string key,vc] d fun e w'=>∃ v',e=.returned v'∧Ents w' w'.heap.size v' (Hi key m)∧Q d w'):=AC (fun d q=>Iy key m vc d (by unfold maxLen;omega) hm (hc.on q))
 have CU:Hid (∀ hi d x,Q w d→atE l key≤hi→hi≤l.length→Ents d d.heap.size x (Hi key m)→Calls Tryz.prog 174 #[v,.int .i64 (atE l key:Nat),.int .i64 (hi:Nat),x] d fun e w'=>∃ v',e=.returned v'∧Ents w' w'.heap.size v' (l.take (atE l key)++Hi key m++l.drop hi)∧Q d w'):=AC (fun hi d x q h1 h2 hx=>SS l _ (atE l key) hi v x d hl (by have:=JL key m;omega) h1 h2 hx (ht.on q))
 have HA:Hid (∀ v' d,Ents d d.heap.size v' (B6 l key m)→(B6 l key m).length≤1000→Calls Tryz.prog 176 #[v'] d fun e w'=>∃ v'',e=.returned v''∧Ents w' w'.heap.size v'' (B6 l key m)∧Q d w'):=AC (fun v' d h hl'=>Nv _ v' d hl' (fun e he=>by
  rcases JI he with h | ⟨rfl,-⟩
  ·exact(hs.2 e h).2.1
  ·exact hm) h)
 have hle:=Qo l key
 have HTK:=AC (Q9 hr key)
 have hplen:(B6 l key m).length≤1000:=by
  rw [Cu,List.length_append,List.length_append]
  have h1:=(Cr l hr key).1
  have:=congrArg List.length h1
  rw [List.length_append,List.length_append] at this
  have:=JL key m
  omega
 obtain⟨A,c,rfl⟩:=ht.form
 obtain⟨Ac,cc,rfl⟩:=hc.form
 rcases DM l key with⟨e,hk'⟩ | ⟨i,hlt,e,hk',-⟩
 ·rw [e] at PL
  have HV:Hid (l.take (atE l key)++Hi key m++l.drop (atE l key)=B6 l key m):=AC (by rw [Cu,HTK.out,Ry hr hk'])
  obtain⟨F,hF⟩:∃ F,atE l key=F:=⟨_,rfl⟩
  rw [hF] at AT CU HV hle
  clear o1 o2 o3 hs ht hc hr hl60 hk' e hF HTK
  go_enter Tryz.func156,Tryz.ntmps156
  go_wp2_with fail
  refine(M.out).mono ?_
  rintro e w1 ⟨rfl,q1⟩
  go_wp2_with fail
  refine(K.out _).mono ?_
  rintro e w2 ⟨rfl,q2⟩
  have q12:=q1.trans q2
  go_wp2_with fail
  refine(CK.out _ q12).mono ?_
  rintro e w3 ⟨rfl,q3⟩
  have q13:=q12.trans q3
  clear q1 q2 q12 q3 M K CK
  go_wp2_with fail
  refine(AT.out _ q13).mono ?_
  rintro e w4 ⟨rfl,q4⟩
  have q14:=q13.trans q4
  go_wp2_with fail
  refine(PL.out _ q14).mono ?_
  rintro e w5 ⟨rfl,q5⟩
  have q15:=q14.trans q5
  clear q13 q4 q14 q5 AT PL
  go_wp2_with fail
  refine(EN.out _ q15).mono ?_
  rintro e w6 ⟨x6,rfl,e6,q6⟩
  have q16:=q15.trans q6
  clear q15 q6 EN
  go_wp2_with fail
  refine(CU.out F _ _ q16 (Nat.le_refl _) hle e6).mono ?_
  rintro e w7 ⟨v7,rfl,e7,q7⟩
  rw [HV.out] at e7
  have q17:=q16.trans q7
  clear q16 q7 CU e6
  obtain⟨A7,c7,rfl⟩:=e7.form
  have CA:=AC (HA.out _ _ e7 hplen)
  clear HA e7 HV
  by_cases h60:(B6 l key m).length≤60
  ·obtain⟨n,hn⟩:∃ n,(B6 l key m).length=n:=⟨_,rfl⟩
   have HN:=AC hn
   rw [hn] at CA h60
   have h60':¬ (60:Int)<(n:Int):=by omega
   rw [hn]
   clear hn hplen
   go_wp2_with fail
   refine(CA.out).mono ?_
   rintro e w8 ⟨v8,rfl,e8,q8⟩
   have q18:=q17.trans q8
   go_wp2
   go_ret2
   refine⟨_,B6 l key m,_,rfl,.inr ⟨?_,rfl,rfl⟩,e8,q18⟩
   first | (rw [HN.out];exact h60) | exact h60 | (have:=HN.out;omega)
  ·obtain⟨n,hn⟩:∃ n,(B6 l key m).length=n:=⟨_,rfl⟩
   have HN:=AC hn
   rw [hn] at CA h60
   have h60':(60:Int)<(n:Int):=by omega
   rw [hn]
   clear hn hplen
   go_wp2
   go_ret2
   refine⟨_,_,_,rfl,.inl ⟨?_,rfl,rfl⟩,Ents.nil _ _,q17⟩
   first | (rw [HN.out];omega) | omega | (have:=HN.out;omega)
 ·obtain⟨hdr,hle2⟩:=QB hr hlt hk'
  have HV:Hid (l.take (atE l key)++Hi key m++l.drop (atE l key+1)=B6 l key m):=AC (by rw [Cu,HTK.out,hdr])
  obtain⟨F,hF⟩:∃ F,atE l key=F:=⟨_,rfl⟩
  rw [hF] at AT CU HV hle hle2
  rw [e] at PL
  have hi0:(0:Int)≤(i:Int):=by omega
  have hw1:IntKind.i64.wrap ((F:Int)+1)=((F+1:Nat):Int):=by rw [IntKind.wrap_i64];omega
  clear o1 o2 o3 hs ht hc hr hl60 hk' e hF HTK hdr
  go_enter Tryz.func156,Tryz.ntmps156
  go_wp2_with fail
  refine(M.out).mono ?_
  rintro e w1 ⟨rfl,q1⟩
  go_wp2_with fail
  refine(K.out _).mono ?_
  rintro e w2 ⟨rfl,q2⟩
  have q12:=q1.trans q2
  go_wp2_with fail
  refine(CK.out _ q12).mono ?_
  rintro e w3 ⟨rfl,q3⟩
  have q13:=q12.trans q3
  clear q1 q2 q12 q3 M K CK
  go_wp2_with fail
  refine(AT.out _ q13).mono ?_
  rintro e w4 ⟨rfl,q4⟩
  have q14:=q13.trans q4
  go_wp2_with fail
  refine(PL.out _ q14).mono ?_
  rintro e w5 ⟨rfl,q5⟩
  have q15:=q14.trans q5
  clear q13 q4 q14 q5 AT PL
  go_wp2_with fail
  refine(EN.out _ q15).mono ?_
  rintro e w6 ⟨x6,rfl,e6,q6⟩
  have q16:=q15.trans q6
  clear q15 q6 EN
  go_wp2_with fail
  have CU1:=CU.out (F+1) _ _ q16 (by omega) hle2 e6
  (try rw [Int.natCast_add] at CU1)
  refine CU1.mono ?_
  clear CU1
  rintro e w7 ⟨v7,rfl,e7,q7⟩
  rw [HV.out] at e7
  have q17:=q16.trans q7
  clear q16 q7 CU e6
  obtain⟨A7,c7,rfl⟩:=e7.form
  have CA:=AC (HA.out _ _ e7 hplen)
  clear HA e7 HV
  by_cases h60:(B6 l key m).length≤60
  ·obtain⟨n,hn⟩:∃ n,(B6 l key m).length=n:=⟨_,rfl⟩
   have HN:=AC hn
   rw [hn] at CA h60
   have h60':¬ (60:Int)<(n:Int):=by omega
   rw [hn]
   clear hn hplen
   go_wp2_with fail
   refine(CA.out).mono ?_
   rintro e w8 ⟨v8,rfl,e8,q8⟩
   have q18:=q17.trans q8
   go_wp2
   go_ret2
   refine⟨_,B6 l key m,_,rfl,.inr ⟨?_,rfl,rfl⟩,e8,q18⟩
   first | (rw [HN.out];exact h60) | exact h60 | (have:=HN.out;omega)
  ·obtain⟨n,hn⟩:∃ n,(B6 l key m).length=n:=⟨_,rfl⟩
   have HN:=AC hn
   rw [hn] at CA h60
   have h60':(60:Int)<(n:Int):=by omega
   rw [hn]
   clear hn hplen
   go_wp2
   go_ret2
   refine⟨_,_,_,rfl,.inl ⟨?_,rfl,rfl⟩,Ents.nil _ _,q17⟩
   first | (rw [HN.out];omega) | omega | (have:=HN.out;omega)
end
section
open Go.ChangeShapes Go.WideShapes Go.ChangeAt Go.RowKit
theorem RT(v:Ver):D9 (D9 v)=D9 v:=by
 have:=Hh v
 conv=>lhs;rw [D9]
 rw [if_neg (by omega)]
theorem Rq(l:List Ver):Ga (Ga l)=Ga l:=by
 have h:=GZ l
 conv=>lhs;rw [Ga]
 rw [List.take_of_length_le h,Ga,List.map_map]
 apply List.map_congr_left
 intro x _
 exact RT x
theorem Ix(s:ByteArray):Cc (Cc s)=Cc s:=by
 have:=Bl s
 conv=>lhs;rw [Cc]
 rw [if_neg (by omega)]
theorem RU(e:Ent):IF (IF e)=IF e:=NK (Ix _) (Rq _)
theorem Jj(l:List Ent):(Gv l).length≤61:=by rw [Gv,List.length_map,List.length_take];omega
theorem Pz(l:List Ent):Gv (Gv l)=Gv l:=by
 have h:=Jj l
 conv=>lhs;rw [Gv]
 rw [List.take_of_length_le h,Gv,List.map_map]
 apply List.map_congr_left
 intro x _
 exact RU x
theorem ND{l:List Ver}: ∀ x∈Ga l,x.data.size≤2001:=by
 intro x hx
 rw [Ga,List.mem_map] at hx
 obtain⟨y,-,rfl⟩:=hx
 exact Hh y
theorem Py{l:List Ent}{e:Ent}(h:e∈Gv l):∃ y∈l,e=IF y:=by
 rw [Gv,List.mem_map] at h
 obtain⟨y,hy,rfl⟩:=h
 exact⟨y,List.mem_of_mem_take hy,rfl⟩
def Tw(e:Ent):Prop:=e.key.size≤80∧e.L.length≤21∧∀ x∈e.L,x.data.size≤2001
theorem Ma(e:Ent):Tw (IF e):=⟨Bl _,GZ _,ND⟩
theorem Hw(l:List Ent):∀ e∈Gv l,Tw e:=by
 intro e h
 obtain⟨y,-,rfl⟩:=Py h
 exact Ma y
theorem J7{l:List Ent}(h:l.length≤1000)(k:∀ e∈l,Tw e):By l:=⟨h,fun e he=>⟨by have:=(k e he).1;omega,by have:=(k e he).2.1;omega,fun x hx=>by have:=(k e he).2.2 x hx;omega⟩⟩
theorem PP:okP []:=⟨by simp,fun i=>by simp [Ca,Ta,En]⟩
theorem Et{l:List Ent}: okI l↔l.length≤60∧OD l∧∀ e∈l,BD 1 60 ko e.key=true∧0<e.L.length∧okP e.L:=by
 constructor
 ·intro h
  refine⟨h.1,JO h,fun e he=>?_⟩
  obtain⟨k,hk,rfl⟩:=List.getElem_of_mem he
  obtain⟨a,b,c,-⟩:=h.2 k hk
  exact⟨a,b,c⟩
 ·rintro⟨h1,h2,h3⟩
  refine⟨h1,fun i hi=>?_⟩
  obtain⟨a,b,c⟩:=h3 _ (List.getElem_mem hi)
  exact⟨a,b,c,fun j hj=>(List.pairwise_iff_getElem.1 h2) j i (by omega) hi (by omega)⟩
theorem Re{a b:ByteArray}(h:a≠b):ltB a b=true∨ltB b a=true:=by
 cases k:ltB a b with
 | true=>exact .inl rfl
 | false=>exact .inr (Eu h k)
theorem O4{l:List Ent}{key:ByteArray}{m:List Ver}{e:Ent}: e∈B6 l key m↔(e∈l∧e.key≠key)∨(e=⟨key,m⟩∧m≠[]):=by
 rw [Cu]
 constructor
 ·intro h
  rcases List.mem_append.1 h with h | h
  ·rcases List.mem_append.1 h with h | h
   ·obtain⟨h1,h2⟩:=List.mem_filter.1 h
    exact .inl ⟨h1,Fs h2⟩
   ·right
    unfold Hi at h
    split at h
    ·simp at h
    ·rename_i k;exact⟨by simpa using h,k⟩
  ·obtain⟨h1,h2⟩:=List.mem_filter.1 h
   exact .inl ⟨h1,(Fs h2).symm⟩
 ·rintro(⟨h1,h2⟩ | ⟨rfl,h2⟩)
  ·rcases Re h2 with h | h
   ·exact List.mem_append.2 (.inl (List.mem_append.2 (.inl (List.mem_filter.2 ⟨h1,h⟩))))
   ·exact List.mem_append.2 (.inr (List.mem_filter.2 ⟨h1,h⟩))
  ·refine List.mem_append.2 (.inl (List.mem_append.2 (.inr ?_)))
   rw [Hi,if_neg h2];simp
theorem Ov{l:List Ent}(h:OD l)(key:ByteArray)(m:List Ver):OD (B6 l key m):=by
 rw [Cu]
 have h1:∀ x∈Hi key m,x.key=key:=by
  intro x hx
  unfold Hi at hx
  split at hx
  ·simp at hx
  ·have:x=⟨key,m⟩:=by simpa using hx
   rw [this]
 refine List.pairwise_append.2 ⟨List.pairwise_append.2 ⟨h.filter _,?_,?_⟩,h.filter _,?_⟩
 ·unfold Hi;split <;> simp
 ·intro x hx y hy
  rw [h1 y hy];exact(List.mem_filter.1 hx).2
 ·intro x hx y hy
  have hy2:ltB key y.key=true:=(List.mem_filter.1 hy).2
  rcases List.mem_append.1 hx with hx | hx
  ·exact DT (List.mem_filter.1 hx).2 hy2
  ·rw [h1 x hx];exact hy2
theorem Mh{l:List Ent}{key:ByteArray}{m:List Ver}(h:okI l)(hk:BD 1 60 ko key=true)(hm:okP m)(hl:(B6 l key m).length≤60):okI (B6 l key m):=by
 obtain⟨h1,h2,h3⟩:=Et.1 h
 refine Et.2 ⟨hl,Ov h2 key m,fun e he=>?_⟩
 rcases O4.1 he with⟨he,-⟩ | ⟨rfl,hne⟩
 ·exact h3 e he
 ·exact⟨hk,List.length_pos_iff.2 hne,hm⟩
theorem Ow{l:List Ent}(h:OD l){e f:Ent}(he:e∈l)(hf:f∈l)(k:e.key=f.key):e=f:=by
 obtain⟨i,hi,rfl⟩:=List.getElem_of_mem he
 obtain⟨j,hj,rfl⟩:=List.getElem_of_mem hf
 have hp:=List.pairwise_iff_getElem.1 h
 rcases Nat.lt_trichotomy i j with hij | hij | hij
 ·have:=hp i j hi hj hij
  rw [k,Br] at this;simp at this
 ·subst hij;rfl
 ·have:=hp j i hj hi hij
  rw [k,Br] at this;simp at this
theorem Ro{l:List Ent}(h:OD l){e:Ent}(he:e∈l):BY l e.key=e.L:=by
 rcases DM l e.key with⟨-,hk⟩ | ⟨i,hlt,-,hk,hkj⟩
 ·obtain⟨j,hj,e'⟩:=List.getElem_of_mem he
  exact absurd (by rw [e']) (hk j hj)
 ·rw [GX hlt hk hkj,Ow h (List.getElem_mem hlt) he hk]
theorem Pr{l:List Ent}{key:ByteArray}(h:∀ e∈l,e.key≠key):BY l key=[]:=Db fun j hl=>h _ (List.getElem_mem hl)
theorem Ps{l:List Ent}(h:okI l)(key:ByteArray):okP (BY l key):=by
 obtain⟨h1,h2,h3⟩:=Et.1 h
 by_cases hx:∃ e∈l,e.key=key
 ·obtain⟨e,he,rfl⟩:=hx
  rw [Ro h2 he];exact(h3 e he).2.2
 ·rw [Pr fun e he hk=>hx ⟨e,he,hk⟩];exact PP
theorem Da(l:List Ent)(key:ByteArray):BY l key=[]∨∃ e∈l,BY l key=e.L:=by
 rcases DM l key with⟨-,hk⟩ | ⟨i,hlt,-,hk,hkj⟩
 ·exact .inl (Db hk)
 ·exact .inr ⟨_,List.getElem_mem hlt,GX hlt hk hkj⟩
theorem O7(l:List Ent)(key:ByteArray)(m:List Ver)(L:List Ent)(k:Nat)(hP:OE l key m L k)(v vc:Value)(w:World)(hs:By l)(hk:key.size≤1000)(hm:m.length≤1000)(ht:Ents w w.heap.size v l)(hc:Vers w w.heap.size vc m):
  Calls Tryz.prog 156 #[v,.string key,vc] w fun e w'=>∃ v',e=.returned (.tuple #[v',.int .i64 (k:Nat)])∧Ents w' w'.heap.size v' L∧Q w w':=by
 rcases hP with⟨h,rfl,rfl⟩ | ⟨⟨a,b,c⟩,h⟩
 ·refine(O6 l key m v vc w h hs hk hm ht hc).mono ?_
  rintro e w' ⟨rfl,q⟩
  exact⟨_,rfl,Ents.nil _ _,q⟩
 ·refine(MT l key m v vc w a b c hs hk hm ht hc).mono ?_
  rintro e w' ⟨v',L',k',rfl,h',he,q⟩
  obtain⟨rfl,rfl⟩:=JH (.inr ⟨⟨a,b,c⟩,h⟩) (.inr ⟨⟨a,b,c⟩,h'⟩)
  exact⟨v',rfl,he,q⟩
theorem L9(l:List Ent)(key:ByteArray)(m:List Ver)(L:List Ent)(k:Nat)(hP:OE l key m L k)(v vc:Value)(w:World)(hs:By l)(hk:key.size≤1000)(hm:m.length≤1000)(ht:Ents w w.heap.size v l)(hc:Vers w w.heap.size vc m):
  Calls Tryz.prog 128 #[v,.string key,vc] w fun e w'=>∃ v',e=.returned (.tuple #[v',.int .i64 (k:Nat)])∧Ents w' w'.heap.size v' L∧Q w w':=by
 rcases hP with⟨h,rfl,rfl⟩ | ⟨⟨a,b,c⟩,h⟩
 ·refine(L8 l key m v vc w h hs hk hm ht hc).mono ?_
  rintro e w' ⟨rfl,q⟩
  exact⟨_,rfl,Ents.nil _ _,q⟩
 ·refine(KO l key m v vc w a b c hs hk hm ht hc).mono ?_
  rintro e w' ⟨v',L',k',rfl,h',he,q⟩
  obtain⟨rfl,rfl⟩:=JH (.inr ⟨⟨a,b,c⟩,h⟩) (.inr ⟨⟨a,b,c⟩,h'⟩)
  exact⟨v',rfl,he,q⟩
end
end Go.Proofs.YtjjlbbfhmpbneaaGreat
