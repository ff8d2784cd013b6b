/-
  Contract of the program's Lay. The part of a number, and what a piece lacks: contracts. Slices of tags of one's own (as in the text of stage 4, without that stage's laws). Pieces: do they rise, and their tags: contracts. The octets of the parts that pieces name: a strings.Builder of the call's own, and octets over it. Is there a piece that lacks something: contracts of ContainsFunc and IndexFunc over pieces. What Whole comes to, and the contract of the program's Whole. Plain facts: what is begun, laid and aborted keeps the rules.
-/
import Derived.Test.YtjjlbbfhmpbneaaGreatLn
import Derived.Test.YtjjlbbfhmpbneaaGreatLl
import Derived.Laws.AppendOwnNone
import Derived.Lib.Builder
import Derived.Lib.AppendStr
import Derived.Lib.UnsafeStr
import Derived.Laws.Externs
namespace Go.Proofs.YtjjlbbfhmpbneaaGreat
open AllReadyH renaming cons → aC, nil → aN
open Lib renaming hid → AC
set_option maxHeartbeats 16000000
set_option maxRecDepth 100000
set_option linter.unusedVariables false
set_option linter.unusedSimpArgs false
section
open Go.ChangeShapes Go.WideShapes Go.ChangeAt Go.RowKit
inductive LayC(l:List Upl)(id:Nat)(p:Prt):List Upl→Nat→Nat→Prop
 | arg:¬ (Ab l∧Cd p=true)→LayC l id p [] 0 1
 | none:Ab l→Cd p=true→(∀ j (hl:j<l.length),l[j].id≠id)→LayC l id p [] 0 4
 | large (i:Nat) (h:i<l.length):Ab l→Cd p=true→l[i].id=id→(∀ j (hj:j<i) (hl:j<l.length),l[j].id≠id)→30<(Aj l[i].L p).length→LayC l id p [] 0 6
 | yes (i:Nat) (h:i<l.length):Ab l→Cd p=true→l[i].id=id→(∀ j (hj:j<i) (hl:j<l.length),l[j].id≠id)→¬ 30<(Aj l[i].L p).length→LayC l id p (l.set i {l[i] with L:=Aj l[i].L p}) (crc (bl p.data)) 0
theorem Rk(l:List Upl)(id:Nat)(p:Prt):∃ r t e,LayC l id p r t e:=by
 by_cases h:Ab l∧Cd p=true
 ·rcases EC l id with⟨-,k⟩ | ⟨i,hi,-,k,m⟩
  ·exact⟨_,_,_,.none h.1 h.2 k⟩
  ·by_cases z:30<(Aj l[i].L p).length
   ·exact⟨_,_,_,.large i hi h.1 h.2 k m z⟩
   ·exact⟨_,_,_,.yes i hi h.1 h.2 k m z⟩
 ·exact⟨_,_,_,.arg h⟩
theorem Dw(L:List Prt)(p:Prt):(Aj L p).length≤L.length+1:=by
 have:∀ L:List Prt,(L.filter (fun x=>decide (x.n<p.n))).length+(L.filter (fun x=>decide (p.n<x.n))).length≤L.length:=by
  intro L
  induction L with
  | nil=>simp
  | cons y r ih=>
    by_cases h1:y.n<p.n
    ·have h2:¬ p.n<y.n:=by omega
     rw [List.filter_cons_of_pos (by simpa using h1),List.filter_cons_of_neg (by simpa using h2),List.length_cons,List.length_cons];omega
    ·by_cases h2:p.n<y.n
     ·rw [List.filter_cons_of_neg (by simpa using h1),List.filter_cons_of_pos (by simpa using h2),List.length_cons,List.length_cons];omega
     ·rw [List.filter_cons_of_neg (by simpa using h1),List.filter_cons_of_neg (by simpa using h2),List.length_cons];omega
 have:=this L
 rw [Aj,List.length_append,List.length_append,List.length_singleton];omega
theorem EB{L:List Prt}{p:Prt}(h:∀ x∈L,De x)(k:De p):∀ x∈Aj L p,De x:=by
 intro x hx
 rw [Aj,List.mem_append,List.mem_append] at hx
 rcases hx with(hx | hx) | hx
 ·exact h x (List.mem_filter.1 hx).1
 ·obtain rfl:x=p:=by simpa using hx
  exact k
 ·exact h x (List.mem_filter.1 hx).1
theorem Pf(l:List Upl)(v:Value)(id:Nat)(p:Prt)(w:World)(r:List Upl)(t e:Nat)(h:LayC l id p r t e)(hp:De p)(hs:smL l)(ht:Upls w w.heap.size v l):
  Calls Tryz.prog 113 #[v,.int .u64 (id:Nat),prt p] w fun z w'=>∃ u,z=.returned (.tuple #[u,.int .u32 (t:Nat),.int .i64 (e:Nat)])∧Upls w' w'.heap.size u r∧Q w w':=by
 obtain⟨x,d⟩:=p
 have HT:=AC ht
 have hl:=hs.1
 have q00:=(Q.refl w).alloc (.cells #[.int .i64 x,.string d] 64)
 have CK:∀ R,Chk (Ab l) R→Calls Tryz.prog 47 #[v] (w.alloc (.cells #[.int .i64 x,.string d] 64)) fun e w'=>e=.returned (.int .i64 (Nj R))∧Q (w.alloc (.cells #[.int .i64 x,.string d] 64)) w':=fun R hR=>CJ l v _ R hR hs (ht.on q00)
 have M0:=fun d'=>Fr ⟨x,d⟩ d'
 have PL:Hid (∀ d,Q w d→Calls Tryz.prog 144 #[v,.int .u64 (id:Nat)] d fun e w'=>e=.returned (.int .i64 (Kw l id))∧Q d w'):=AC fun d q=>Dk l v id d hl (ht.on q)
 have AA:Hid (∀ d,Q w d→Calls Tryz.prog 143 #[v] d fun e w'=>∃ v',e=.returned v'∧OwnU d.heap.size w' v' l∧Q d w'):=AC fun d q=>Cq l v d hs (ht.on q)
 rw [prt] at M0 ⊢
 simp only at M0 ⊢
 by_cases hok:Ab l
 ·have C:=AC (CK true (.inl ⟨rfl,hok⟩))
  cases hm:Cd ⟨x,d⟩ with
  | false=>
    have HV:Hid (r=[]∧t=0∧e=1):=AC (by
     cases h with
     | arg h=>exact⟨rfl,rfl,rfl⟩
     | none _ h _=>rw [hm] at h;simp at h
     | large _ _ _ h=>rw [hm] at h;simp at h
     | yes _ _ _ h=>rw [hm] at h;simp at h)
    rw [hm] at M0
    have M:=AC M0
    clear CK ht hs h hok hm M0 PL AA
    go_enter Tryz.func113,Tryz.ntmps113
    go_wp2_with fail
    refine(C.out).mono ?_
    rintro e w1 ⟨rfl,q1⟩
    obtain⟨b0,b1⟩:=Ak q1
    go_wp2_with fail
    refine(M.out _).mono ?_
    rintro e w2 ⟨rfl,q2⟩
    go_wp2
    (try simp only [Exit.inBlock,Exit.then])
    refine bodyPost_ret (v:=.tuple #[.slice none 0 0,.int .u32 0,.int .i64 1]) (by simp [results,Tryz.results113,go_sem]) rfl ⟨_,by rw [HV.out.2.1,HV.out.2.2];rfl,by rw [HV.out.1];exact Upls.nil _ _,q00.trans (q1.trans q2)⟩
  | true=>
    rw [hm] at M0
    have M:=AC M0
    have hd2:d.size≤5000:=by have:=(EO.1 hm).2.2;show d.size≤5000;simp only at this;omega
    clear CK M0
    cases h with
    | arg h=>exact absurd ⟨hok,hm⟩ h
    | none _ _ hno=>
      rw [DX hno] at PL
      clear ht hs hok hno hm AA
      go_enter Tryz.func113,Tryz.ntmps113
      go_wp2_with fail
      refine(C.out).mono ?_
      rintro e w1 ⟨rfl,q1⟩
      obtain⟨b0,b1⟩:=Ak q1
      go_wp2_with fail
      refine(M.out _).mono ?_
      rintro e w2 ⟨rfl,q2⟩
      go_wp2_with fail
      refine(PL.out _ (q00.trans (q1.trans q2))).mono ?_
      rintro e w3 ⟨rfl,q3⟩
      go_wp2
      (try simp only [Exit.inBlock,Exit.then])
      refine bodyPost_ret (v:=.tuple #[.slice none 0 0,.int .u32 0,.int .i64 4]) (by simp [results,Tryz.results113,go_sem]) rfl ⟨_,rfl,Upls.nil _ _,q00.trans (q1.trans (q2.trans q3))⟩
    | large i hlt _ _ hid hlo hbig=>
      have e1:=DY hlt hid hlo
      rw [e1] at PL
      have hsm:=hs.2 _ (List.getElem_mem hlt)
      have hoL:=(hok.2 i hlt).1.2.2
      obtain⟨a,c',hv,ha,A2,c2,hps,hat⟩:=HT.out.pick i hlt
      obtain⟨c,hv'⟩:∃ c,v=.slice (some a) l.length c:=⟨_,hv⟩
      subst hv'
      have hX:l[i]=l[i]:=rfl
      obtain⟨X,hX⟩:∃ X,X=l[i]:=⟨_,rfl⟩
      rw [← hX] at hps hat hsm hoL hbig
      have HX:=AC hX
      obtain⟨xi,xk,L⟩:=X
      simp only at hps hat hsm hoL hbig
      have hL1:L.length≤1000:=hsm.2.1
      have hW1:=Dw L ⟨x,d⟩
      have HWO:=AC (EB hps.okAll hp)
      obtain⟨n2,hn2⟩:∃ n,L.length=n:=⟨_,rfl⟩
      rw [hn2] at hps hat
      have HN2:=AC hn2
      have KS:Hid (∀ b,Q (w.alloc (.cells #[.int .i64 x,.string d] 64)) b→(fun w'=>w'.cell? ⟨w.heap.size,0,none⟩=some (.int .i64 x)∧w'.cell? ⟨w.heap.size,1,none⟩=some (.string d)∧w'.cell? ⟨(a.add (i*3)).block,(a.add (i*3)).off+2,none⟩=some (.slice A2 n2 c2)∧Q (w.alloc (.cells #[.int .i64 x,.string d] 64)) w') b):=AC fun b q=>⟨(Ak q).1,(Ak q).2,(hat b (q00.trans q)).2.2,q⟩
      have MW:Hid (∀ b,(fun w'=>w'.cell? ⟨w.heap.size,0,none⟩=some (.int .i64 x)∧w'.cell? ⟨w.heap.size,1,none⟩=some (.string d)∧w'.cell? ⟨(a.add (i*3)).block,(a.add (i*3)).off+2,none⟩=some (.slice A2 n2 c2)∧Q (w.alloc (.cells #[.int .i64 x,.string d] 64)) w') b→Calls Tryz.prog 145 #[.slice A2 n2 c2,.agg #[.int .i64 x,.string d]] b fun e w'=>∃ v',e=.returned v'∧OwnP b.heap.size w' v' (Aj L ⟨x,d⟩)∧Q b w'):=AC fun b hb=>by
       have:=JD L ⟨x,d⟩ (.slice A2 n2 c2) b hoL hp hL1 (hps.on (q00.trans hb.2.2.2))
       rw [prt] at this;exact this
      have hilt:(i:Int)<(l.length:Int):=by omega
      have hi0:¬ (i:Int)<0:=by omega
      clear ht hs hok hid hlo e1 hv hX hps hat hsm hoL hn2
      have hb2:(30:Int)<((Aj L ⟨x,d⟩).length:Int):=by omega
      clear AA hbig
      go_enter Tryz.func113,Tryz.ntmps113
      go_wp2_with fail
      refine(C.out).mono ?_
      rintro e w1 ⟨rfl,q1⟩
      obtain⟨b0,b1⟩:=Ak q1
      go_wp2_with fail
      refine(M.out _).mono ?_
      rintro e w2 ⟨rfl,q2⟩
      go_wp2_with fail
      refine(PL.out _ (q00.trans (q1.trans q2))).mono ?_
      rintro e w3 ⟨rfl,q3⟩
      have qz:=q1.trans (q2.trans q3)
      go_wp2_with fail
      refine wp_region_held_drew (S:=(fun w'=>w'.cell? ⟨w.heap.size,0,none⟩=some (.int .i64 x)∧w'.cell? ⟨w.heap.size,1,none⟩=some (.string d)∧w'.cell? ⟨(a.add (i*3)).block,(a.add (i*3)).off+2,none⟩=some (.slice A2 n2 c2)∧Q (w.alloc (.cells #[.int .i64 x,.string d] 64)) w')) (by kernel_rfl) (KS.out _ qz.drew) (fun hHeld=>?_)
      refine tkV 0 ?_
      refine tkV 1 ?_
      refine tkV 2 ?_
      refine tkV 3 ?_
      refine tkV 4 ?_
      refine tkV 5 ?_
      refine aR [6] ?_
      refine aC rfl (fun K hK=>?_) aN
      go_simp
      go_at_call 145
      refine(MW.out _ (by assumption)).mono ?_
      rintro e w4 ⟨v4,rfl,o4,q4⟩
      obtain⟨A4,c4,rfl⟩:=o4.form
      have q5:Q (w.alloc (.cells #[.int .i64 x,.string d] 64)) w4:=Q.trans hHeld.2.2.2 q4
      refine hK.out _ _ (KS.out _ q5) (fun hHeld=>?_)
      clear hK K
      refine pg ?_
      refine tkV 7 ?_
      refine wpAnyH_done (by kernel_rfl) ?_ _
      go_wp2
      (try simp only [Exit.inBlock,Exit.then])
      refine bodyPost_ret (v:=.tuple #[.slice none 0 0,.int .u32 0,.int .i64 6]) (by simp [results,Tryz.results113,go_sem]) rfl ⟨_,rfl,Upls.nil _ _,q00.trans q5⟩
    | yes i hlt _ _ hid hlo hbig=>
      have e1:=DY hlt hid hlo
      rw [e1] at PL
      have hsm:=hs.2 _ (List.getElem_mem hlt)
      have hoL:=(hok.2 i hlt).1.2.2
      obtain⟨a,c',hv,ha,A2,c2,hps,hat⟩:=HT.out.pick i hlt
      obtain⟨c,hv'⟩:∃ c,v=.slice (some a) l.length c:=⟨_,hv⟩
      subst hv'
      have hX:l[i]=l[i]:=rfl
      obtain⟨X,hX⟩:∃ X,X=l[i]:=⟨_,rfl⟩
      rw [← hX] at hps hat hsm hoL hbig ⊢
      have HX:=AC hX
      obtain⟨xi,xk,L⟩:=X
      simp only at hps hat hsm hoL hbig ⊢
      have hL1:L.length≤1000:=hsm.2.1
      have hW1:=Dw L ⟨x,d⟩
      have HWO:=AC (EB hps.okAll hp)
      obtain⟨n2,hn2⟩:∃ n,L.length=n:=⟨_,rfl⟩
      rw [hn2] at hps hat
      have HN2:=AC hn2
      have KS:Hid (∀ b,Q (w.alloc (.cells #[.int .i64 x,.string d] 64)) b→(fun w'=>w'.cell? ⟨w.heap.size,0,none⟩=some (.int .i64 x)∧w'.cell? ⟨w.heap.size,1,none⟩=some (.string d)∧w'.cell? ⟨(a.add (i*3)).block,(a.add (i*3)).off+2,none⟩=some (.slice A2 n2 c2)∧Q (w.alloc (.cells #[.int .i64 x,.string d] 64)) w') b):=AC fun b q=>⟨(Ak q).1,(Ak q).2,(hat b (q00.trans q)).2.2,q⟩
      have MW:Hid (∀ b,(fun w'=>w'.cell? ⟨w.heap.size,0,none⟩=some (.int .i64 x)∧w'.cell? ⟨w.heap.size,1,none⟩=some (.string d)∧w'.cell? ⟨(a.add (i*3)).block,(a.add (i*3)).off+2,none⟩=some (.slice A2 n2 c2)∧Q (w.alloc (.cells #[.int .i64 x,.string d] 64)) w') b→Calls Tryz.prog 145 #[.slice A2 n2 c2,.agg #[.int .i64 x,.string d]] b fun e w'=>∃ v',e=.returned v'∧OwnP b.heap.size w' v' (Aj L ⟨x,d⟩)∧Q b w'):=AC fun b hb=>by
       have:=JD L ⟨x,d⟩ (.slice A2 n2 c2) b hoL hp hL1 (hps.on (q00.trans hb.2.2.2))
       rw [prt] at this;exact this
      have hilt:(i:Int)<(l.length:Int):=by omega
      have hi0:¬ (i:Int)<0:=by omega
      clear ht hs hok hid hlo e1 hv hX hps hat hsm hoL hn2
      have hb2:¬ (30:Int)<((Aj L ⟨x,d⟩).length:Int):=by omega
      have O:=AC fun w=>JQ d w hd2
      clear hbig
      go_enter Tryz.func113,Tryz.ntmps113
      go_wp2_with fail
      refine(C.out).mono ?_
      rintro e w1 ⟨rfl,q1⟩
      obtain⟨b0,b1⟩:=Ak q1
      go_wp2_with fail
      refine(M.out _).mono ?_
      rintro e w2 ⟨rfl,q2⟩
      go_wp2_with fail
      refine(PL.out _ (q00.trans (q1.trans q2))).mono ?_
      rintro e w3 ⟨rfl,q3⟩
      have qz:=q1.trans (q2.trans q3)
      go_wp2_with fail
      refine wp_region_held_drew (S:=(fun w'=>w'.cell? ⟨w.heap.size,0,none⟩=some (.int .i64 x)∧w'.cell? ⟨w.heap.size,1,none⟩=some (.string d)∧w'.cell? ⟨(a.add (i*3)).block,(a.add (i*3)).off+2,none⟩=some (.slice A2 n2 c2)∧Q (w.alloc (.cells #[.int .i64 x,.string d] 64)) w')) (by kernel_rfl) (KS.out _ qz.drew) (fun hHeld=>?_)
      refine tkV 0 ?_
      refine tkV 1 ?_
      refine tkV 2 ?_
      refine tkV 3 ?_
      refine tkV 4 ?_
      refine tkV 5 ?_
      refine aR [6] ?_
      refine aC rfl (fun K hK=>?_) aN
      go_simp
      go_at_call 145
      refine(MW.out _ (by assumption)).mono ?_
      rintro e w4 ⟨v4,rfl,o4,q4⟩
      obtain⟨A4,c4,rfl⟩:=o4.form
      have q5:Q (w.alloc (.cells #[.int .i64 x,.string d] 64)) w4:=Q.trans hHeld.2.2.2 q4
      refine hK.out _ _ (KS.out _ q5) (fun hHeld=>?_)
      clear hK K
      refine pg ?_
      refine tkV 7 ?_
      refine wpAnyH_done (by kernel_rfl) ?_ _
      go_wp2_with fail
      refine(AA.out _ (q00.trans q5)).mono ?_
      rintro e w6 ⟨v6,rfl,o6,q6⟩
      have hr:=o4.read HWO.out
      obtain⟨A6,c6,rfl⟩:=o6.form
      obtain⟨P,hP,r6,f6⟩:=o6
      have hPl:P.length=l.length:=by rw [← hP,List.length_map]
      obtain⟨a6,hA,ha1,ha2,hat6⟩:=r6.at i (by omega)
      subst hA
      obtain⟨-,-,e2',-,-,k2⟩:=hat6 _ (Q.refl _)
      obtain⟨z2,e2⟩:∃ z,w6.cell? ⟨(a6.add (i*3)).block,(a6.add (i*3)).off+2,none⟩=some z:=⟨_,e2'⟩
      clear e2'
      have u6:AptU w4.heap.size w6 (.slice A4 (Aj L ⟨x,d⟩).length c4) (Aj L ⟨x,d⟩):=⟨HWO.out,by unfold maxLen;omega,.inl (hr.below q6)⟩
      have s6:=r6.store f6 i (by omega) u6 q6.size
      have hPi:(P[i]'(by omega)).1=⟨xi,xk,L⟩:=by rw [HX.out];simp [← hP]
      rw [hP,hPi] at s6
      have q7:Below w4.heap.size w4 (w6.setCell ⟨(a6.add (i*3)).block,(a6.add (i*3)).off+2,none⟩ (.slice A4 (Aj L ⟨x,d⟩).length c4)):=Below.setCell q6 (by show w4.heap.size≤(a6.add (i*3)).block;rw [AG];exact ha1) _
      have q8:=q5.trans q7
      obtain⟨g0,g1⟩:=Ak q8
      obtain⟨y0,y1⟩:=Ak (q5.trans q6)
      have HS:=AC (s6.read q7.size)
      have H9:=AC (q00.trans q8)
      clear r6 f6 hat6 hr u6 s6 hP hPi hPl
      go_wp2_with fail
      refine(O.out _).mono ?_
      rintro e w9 ⟨rfl,rfl⟩
      go_wp2
      (try simp only [Exit.inBlock,Exit.then])
      refine bodyPost_ret (v:=.tuple #[.slice (some a6) l.length c6,.int .u32 (crc (bl d):Nat),.int .i64 0]) (by simp [results,Tryz.results113,go_sem]) rfl ⟨_,rfl,?_,H9.out⟩
      exact HS.out
 ·have C:=AC (CK false (.inr ⟨rfl,hok⟩))
  have HV:Hid (r=[]∧t=0∧e=1):=AC (by
   cases h with
   | arg h=>exact⟨rfl,rfl,rfl⟩
   | none h _ _=>exact absurd h hok
   | large _ _ h=>exact absurd h hok
   | yes _ _ h=>exact absurd h hok)
  clear CK ht hs h hok M0 PL AA
  go_enter Tryz.func113,Tryz.ntmps113
  go_wp2_with fail
  refine(C.out).mono ?_
  rintro e w1 ⟨rfl,q1⟩
  go_wp2
  (try simp only [Exit.inBlock,Exit.then])
  refine bodyPost_ret (v:=.tuple #[.slice none 0 0,.int .u32 0,.int .i64 1]) (by simp [results,Tryz.results113,go_sem]) rfl ⟨_,by rw [HV.out.2.1,HV.out.2.2];rfl,by rw [HV.out.1];exact Upls.nil _ _,q00.trans q1⟩
end
section
open Go.ChangeShapes Go.WideShapes Go.ChangeAt Go.RowKit
def noP:Prt:=⟨0,⟨#[]⟩⟩
inductive PartC(L:List Prt)(n:Int):Prt→Bool→Prop
 | yes (i:Nat) (h:i<L.length):L[i].n=n→(∀ j (hj:j<i) (hl:j<L.length),L[j].n≠n)→PartC L n L[i] true
 | no:(∀ j (hl:j<L.length),L[j].n≠n)→PartC L n noP false
theorem B7(L:List Prt)(n:Int):∃ r b,PartC L n r b:=by
 by_cases h:∃ i,∃ hi:i<L.length,L[i].n=n
 ·obtain⟨i,hi,e⟩:=h
  induction i using Nat.strongRecOn with
  | ind i ih=>
    by_cases k:∃ j,∃ hj:j<i,∃ hl:j<L.length,L[j].n=n
    ·obtain⟨j,hj,hl,e'⟩:=k
     exact ih j hj hl e'
    ·exact⟨_,_,.yes i hi e fun j hj hl e'=>k ⟨j,hj,hl,e'⟩⟩
 ·exact⟨_,_,.no fun j hl e=>h ⟨j,hl,e⟩⟩
theorem Ch{L:List Prt}{n:Int}{r r':Prt}{b b':Bool}(h:PartC L n r b)(h':PartC L n r' b'):r=r'∧b=b':=by
 cases h with
 | yes i hi e k=>
   cases h' with
   | yes j hj e' k'=>
     obtain rfl:i=j:=by
      rcases Nat.lt_trichotomy i j with g | g | g
      ·exact absurd e (k' i g hi)
      ·exact g
      ·exact absurd e' (k j g hj)
     exact⟨rfl,rfl⟩
   | no k'=>exact absurd e (k' i hi)
 | no k=>
   cases h' with
   | yes j hj e' k'=>exact absurd e' (k j hj)
   | no k'=>exact⟨rfl,rfl⟩
theorem Gm{w w1:World}{i:Value}{k:Value}(q:Q (w.alloc (.cells #[i,k] 64)) w1):Bx w1 w.heap.size 64 #[i,k]:=(Bx.new w _ _).on q
theorem GN(L:List Prt)(v:Value)(n:Int)(w:World)(r:Prt)(b:Bool)(h:PartC L n r b)(hl:L.length≤1000)(ht:Prts w w.heap.size v L):
  Calls Tryz.prog 167 #[v,.int .i64 n] w fun e w'=>e=.returned (.tuple #[.agg #[.int .i64 r.n,.string r.data],.bool b])∧Q w w':=by
 have HT:=AC ht
 have HH:=AC h
 obtain⟨A,c,rfl⟩:=ht.form
 obtain⟨N,hn⟩:∃ N,L.length=N:=⟨_,rfl⟩
 rw [hn] at HT hl ⊢
 have HN:=AC hn
 have q0:=(Q.refl w).alloc (.cells #[.int .i64 0,.string ⟨#[]⟩] 64)
 have QW:=AC q0
 have q00:=Q.refl (w.alloc (.cells #[.int .i64 0,.string ⟨#[]⟩] 64))
 clear ht h hn q0
 go_enter Tryz.func167,Tryz.ntmps167
 go_wp2_with fail
 go_loopw [7,10] (fun _ I wr=>∃ i:Nat,i≤N∧I=.int .i64 i∧Q (w.alloc (.cells #[.int .i64 0,.string ⟨#[]⟩] 64)) wr∧Hid (∀ j (hj:j<i) (hl:j<L.length),L[j].n≠n)) (fun _ I _=>N - (intOf I).toNat)
 case atStart=>exact⟨0,Nat.zero_le _,rfl,q00,AC (fun j h=>by omega)⟩
 case round=>
  obtain⟨i,hil,rfl,q,HK⟩:=hrel
  have bx:=Gm q
  have z0:=bx.cell 0
  have z1:=bx.cell 1
  have g0:=bx.frozen 0
  have g1:=bx.frozen 1
  simp only [List.getElem?_toArray,List.getElem?_cons_zero,List.getElem?_cons_succ] at z0 z1
  by_cases hlt:i<N
  ·have hltL:i<L.length:=by have:=HN.out;omega
   obtain⟨a,c',hv,ha,-,hat⟩:=HT.out.pick i hltL
   injection hv with e1 e2 e3
   subst e1 e3
   obtain⟨c0,c1⟩:=hat _ (QW.out.trans q)
   have hilt:(i:Int)<(N:Int):=by omega
   have HX:Hid (L[i].n=n→r=L[i]∧b=true):=AC (fun e=>Ch HH.out (.yes i hltL e HK.out))
   have HY:Hid (L[i].n≠n→∀ j (hj:j<i+1) (hl:j<L.length),L[j].n≠n):=AC (fun e j hj hl=>by
    by_cases k:j=i
    ·subst k;exact e
    ·exact HK.out j (by omega) hl)
   obtain⟨x,hx⟩:∃ x,x=L[i]:=⟨_,rfl⟩
   rw [← hx] at c0 c1 HX HY
   clear hat hx e2 bx
   obtain⟨xn,xd⟩:=x
   simp only at c0 c1 HX HY
   have q3:=q.alloc (.cells #[.int .i64 xn,.string xd] 64)
   have bx3:=AC ((Gm q).alloc (.cells #[.int .i64 xn,.string xd] 64))
   have hne:w.heap.size<wr.heap.size:=by have:=q.size;rw [World.size_alloc] at this;omega
   have hne2:¬ w.heap.size=wr.heap.size:=by omega
   by_cases hxn:xn=n
   ·have HV:=AC (HX.out hxn)
    have hd:decide (xn=n)=true:=by simp [hxn]
    subst hxn
    have QZ:=AC (QW.out.trans q3)
    go_wp2_with fail
    (try simp only [Exit.inBlock,Exit.then])
    have qA:=Q.set (k:=1) (Q.set (k:=0) (QW.out.trans q) (Nat.le_refl w.heap.size) (.int .i64 xn)) (Nat.le_refl w.heap.size) (.string xd)
    have qB:=qA.alloc (.cells #[.int .i64 xn,.string xd] 64)
    have bD:Bx (((wr.setCell ⟨w.heap.size,0,none⟩ (.int .i64 xn)).setCell ⟨w.heap.size,1,none⟩ (.string xd)).alloc (.cells #[.int .i64 xn,.string xd] 64)) w.heap.size 64 #[.int .i64 xn,.string xd]:=(((Gm q).set 0 _).set 1 _).alloc _
    generalize ((wr.setCell ⟨w.heap.size,0,none⟩ (.int .i64 xn)).setCell ⟨w.heap.size,1,none⟩ (.string xd)).alloc (.cells #[.int .i64 xn,.string xd] 64)=wE at bD qB ⊢
    have v0:=bD.cell 0
    have v1:=bD.cell 1
    simp only [List.getElem?_toArray,List.getElem?_cons_zero,List.getElem?_cons_succ] at v0 v1
    refine bodyPost_ret (v:=.tuple #[.agg #[.int .i64 xn,.string xd],.bool true]) ?_ rfl ⟨by rw [HV.out.1,HV.out.2],qB⟩
    simp [results,Tryz.results167,go_sem,v0,v1]
   ·have HK2:=AC (HY.out hxn)
    go_wp2_with fail
    go_roundw
    case rel=>exact⟨i+1,by omega,by go_num,q3,HK2⟩
    case measure=>simp [intOf];omega
  ·have HV:Hid (r=noP∧b=false):=AC (Ch HH.out (.no fun j hl=>HK.out j (by have:=HN.out;omega) hl))
   have hilt:¬ (i:Int)<(N:Int):=by omega
   go_wp2_with fail
   (try simp only [Exit.inBlock,Exit.then])
   have qA:=Q.set (k:=1) (Q.set (k:=0) (QW.out.trans q) (Nat.le_refl w.heap.size) (.int .i64 0)) (Nat.le_refl w.heap.size) (.string ⟨#[]⟩)
   have bD:Bx ((wr.setCell ⟨w.heap.size,0,none⟩ (.int .i64 0)).setCell ⟨w.heap.size,1,none⟩ (.string ⟨#[]⟩)) w.heap.size 64 #[.int .i64 0,.string ⟨#[]⟩]:=((Gm q).set 0 _).set 1 _
   generalize (wr.setCell ⟨w.heap.size,0,none⟩ (.int .i64 0)).setCell ⟨w.heap.size,1,none⟩ (.string ⟨#[]⟩)=wE at bD qA ⊢
   have v0:=bD.cell 0
   have v1:=bD.cell 1
   simp only [List.getElem?_toArray,List.getElem?_cons_zero,List.getElem?_cons_succ] at v0 v1
   refine bodyPost_ret (v:=.tuple #[.agg #[.int .i64 0,.string ⟨#[]⟩],.bool false]) ?_ rfl ⟨by rw [HV.out.1,HV.out.2];rfl,qA⟩
   simp [results,Tryz.results167,go_sem,v0,v1]
noncomputable def partD (L:List Prt) (n:Int):ByteArray:=(Classical.choose (B7 L n)).data
noncomputable def lackB (L:List Prt) (x:Pce):Bool:=by
 classical exact decide (¬ ∃ p,PartC L x.n p true∧crc (bl p.data)=x.tag)
noncomputable def lackO (L:List Prt) (x:Pce):Bool:=decide ((partD L x.n).size<5)
theorem CW{L:List Prt}{n:Int}{p:Prt}{b:Bool}(h:PartC L n p b):partD L n=p.data:=by
 obtain⟨b',hb⟩:=Classical.choose_spec (B7 L n)
 rw [partD,(Ch hb h).1]
theorem GU{L:List Prt}{x:Pce}{p:Prt}(h:PartC L x.n p false):lackB L x=true:=by
 rw [lackB]
 simp only [decide_eq_true_eq]
 rintro⟨p',h',-⟩
 have:=(Ch h h').2
 simp at this
theorem Cm{L:List Prt}{x:Pce}{p:Prt}(h:PartC L x.n p true):lackB L x=decide (crc (bl p.data)≠x.tag):=by
 rw [lackB]
 apply decide_eq_decide.2
 constructor
 ·intro k e;exact k ⟨p,h,e⟩
 ·rintro k ⟨p',h',e⟩
  rw [(Ch h h').1] at k
  exact k e
theorem GT{L:List Prt}{x:Pce}{p:Prt}{b:Bool}(h:PartC L x.n p b):lackO L x=decide (p.data.size<5):=by rw [lackO,CW h]
theorem Ks(L:List Prt)(v:Value)(x:Pce)(w:World)(hl:L.length≤1000)(hL:∀ p∈L,p.data.size≤5000)(ht:Prts w w.heap.size v L):
  Calls Tryz.prog 150 #[v,pce x] w fun e w'=>e=.returned (.bool (lackB L x))∧Q w w':=by
 obtain⟨p,b,hp⟩:=B7 L x.n
 have q00:=(Q.refl w).alloc (.cells #[.int .i64 x.n,.int .u32 (x.tag:Nat)] 67)
 have C:=AC (GN L v x.n _ p b hp hl (ht.on q00))
 have HP:=AC hp
 have hd:p.data.size≤5000:=by
  cases hp with
  | yes i h _ _=>exact hL _ (List.getElem_mem h)
  | no _=>show(0:Nat)≤5000;omega
 obtain⟨A,c,rfl⟩:=ht.form
 obtain⟨N,hn⟩:∃ N,L.length=N:=⟨_,rfl⟩
 obtain⟨xn,xt⟩:=x
 obtain⟨pn,pd⟩:=p
 simp only at q00 C HP hd
 rw [hn] at C
 simp only [pce]
 rw [hn]
 have OF:=AC fun d=>JQ pd d hd
 have HD:=AC hd
 have HB:Hid (∀ b,Q (w.alloc (.cells #[.int .i64 xn,.int .u32 (xt:Nat)] 67)) b→b.cell? ⟨w.heap.size,0,none⟩=some (.int .i64 xn)∧b.cell? ⟨w.heap.size,1,none⟩=some (.int .u32 (xt:Nat))):=AC fun b q=>by
  have bx:Bx b w.heap.size 67 #[.int .i64 xn,.int .u32 (xt:Nat)]:=(Bx.new w _ _).on q
  exact⟨bx.cell 0,bx.cell 1⟩
 clear hp ht hl hL hn hd
 have e0:=HB.out _ (Q.refl _)
 cases b with
 | false=>
   have HV:Hid (lackB L ⟨xn,xt⟩=true):=AC (by have:=GU (x:=⟨xn,xt⟩) HP.out;exact this)
   go_enter Tryz.func150,Tryz.ntmps150
   go_wp2_with fail
   refine(C.out).mono ?_
   rintro e w1 ⟨rfl,q1⟩
   have q2:=q00.trans q1
   have q3:=q2.alloc (.cells #[.int .i64 pn,.string pd] 64)
   clear e0 q00
   go_wp2_with fail
   go_quiet (fail)
   go_wp2
   go_ret
   exact⟨AE (by rw [HV.out]),Q.drewN q3 _⟩
 | true=>
   have HV:Hid (lackB L ⟨xn,xt⟩=decide (crc (bl pd)≠xt)):=AC (by have:=Cm (x:=⟨xn,xt⟩) HP.out;exact this)
   obtain⟨k,hk⟩:∃ k,k=crc (bl pd):=⟨_,rfl⟩
   rw [← hk] at HV OF
   clear hk
   by_cases he:k=xt
   ·subst he
    have HW:Hid (lackB L ⟨xn,k⟩=false):=AC (by rw [HV.out];simp)
    clear HV
    go_enter Tryz.func150,Tryz.ntmps150
    go_wp2_with fail
    refine(C.out).mono ?_
    rintro e w1 ⟨rfl,q1⟩
    have q2:=q00.trans q1
    have q3:=q2.alloc (.cells #[.int .i64 pn,.string pd] 64)
    obtain⟨z0,z1⟩:=HB.out _ (q1.alloc (.cells #[.int .i64 pn,.string pd] 64))
    obtain⟨z2,z3⟩:=HB.out _ q1
    clear e0 q00
    go_wp2_with fail
    go_quiet ((go_at_call 146;first | exact OF.out _ | exact Bp (OF.out _)))
    go_wp2
    go_ret
    exact⟨AE (by rw [HW.out]),Q.drewN q3 _⟩
   ·have HW:Hid (lackB L ⟨xn,xt⟩=true):=AC (by rw [HV.out];simpa using he)
    have hi:¬ (k:Int)=(xt:Int):=by omega
    have hi2:((k:Int) != (xt:Int))=true:=by simpa using hi
    clear HV
    go_enter Tryz.func150,Tryz.ntmps150
    go_wp2_with fail
    refine(C.out).mono ?_
    rintro e w1 ⟨rfl,q1⟩
    have q2:=q00.trans q1
    have q3:=q2.alloc (.cells #[.int .i64 pn,.string pd] 64)
    obtain⟨z0,z1⟩:=HB.out _ (q1.alloc (.cells #[.int .i64 pn,.string pd] 64))
    obtain⟨z2,z3⟩:=HB.out _ q1
    clear e0 q00
    go_wp2_with fail
    go_quiet ((go_at_call 146;first | exact OF.out _ | exact Bp (OF.out _)))
    go_wp2
    go_ret
    exact⟨AE (by rw [HW.out]),Q.drewN q3 _⟩
theorem Kt(L:List Prt)(v:Value)(x:Pce)(w:World)(hl:L.length≤1000)(hL:∀ p∈L,p.data.size≤5000)(ht:Prts w w.heap.size v L):
  Calls Tryz.prog 151 #[v,pce x] w fun e w'=>e=.returned (.bool (lackO L x))∧Q w w':=by
 obtain⟨p,b,hp⟩:=B7 L x.n
 have q00:=(Q.refl w).alloc (.cells #[.int .i64 x.n,.int .u32 (x.tag:Nat)] 67)
 have C:=AC (GN L v x.n _ p b hp hl (ht.on q00))
 have HP:=AC hp
 have hd:p.data.size≤5000:=by
  cases hp with
  | yes i h _ _=>exact hL _ (List.getElem_mem h)
  | no _=>show(0:Nat)≤5000;omega
 obtain⟨A,c,rfl⟩:=ht.form
 obtain⟨N,hn⟩:∃ N,L.length=N:=⟨_,rfl⟩
 obtain⟨xn,xt⟩:=x
 obtain⟨pn,pd⟩:=p
 simp only at q00 C HP hd
 rw [hn] at C
 simp only [pce]
 rw [hn]
 have OF:=AC fun d=>JQ pd d hd
 have HD:=AC hd
 have HB:Hid (∀ b,Q (w.alloc (.cells #[.int .i64 xn,.int .u32 (xt:Nat)] 67)) b→b.cell? ⟨w.heap.size,0,none⟩=some (.int .i64 xn)∧b.cell? ⟨w.heap.size,1,none⟩=some (.int .u32 (xt:Nat))):=AC fun b q=>by
  have bx:Bx b w.heap.size 67 #[.int .i64 xn,.int .u32 (xt:Nat)]:=(Bx.new w _ _).on q
  exact⟨bx.cell 0,bx.cell 1⟩
 clear hp ht hl hL hn hd
 have e0:=HB.out _ (Q.refl _)
 have HV:Hid (lackO L ⟨xn,xt⟩=decide (pd.size<5)):=AC (by have:=GT (x:=⟨xn,xt⟩) HP.out;exact this)
 by_cases h5:pd.size<5
 ·have h5':(pd.size:Int)<5:=by omega
  have HW:Hid (lackO L ⟨xn,xt⟩=true):=AC (by rw [HV.out];simpa using h5)
  clear HV
  go_enter Tryz.func151,Tryz.ntmps151
  go_wp2_with fail
  refine(C.out).mono ?_
  rintro e w1 ⟨rfl,q1⟩
  have q3:=(q00.trans q1).alloc (.cells #[.int .i64 pn,.string pd] 64)
  clear e0 q00
  go_wp2
  go_ret
  exact⟨AE (by rw [HW.out]),q3⟩
 ·have h5':¬ (pd.size:Int)<5:=by omega
  have HW:Hid (lackO L ⟨xn,xt⟩=false):=AC (by rw [HV.out];simpa using h5)
  clear HV
  go_enter Tryz.func151,Tryz.ntmps151
  go_wp2_with fail
  refine(C.out).mono ?_
  rintro e w1 ⟨rfl,q1⟩
  have q3:=(q00.trans q1).alloc (.cells #[.int .i64 pn,.string pd] 64)
  clear e0 q00
  go_wp2
  go_ret
  exact⟨AE (by rw [HW.out];simp;omega),q3⟩
end
section
open Go.ChangeShapes Go.WideShapes Go.ChangeAt Go.RowKit
theorem Jb:(Tryz.prog.info? 60).map (fun i=>(i.zero,i.size,i.bytes))=some (some (.int .u32 0),1,4):=by kernel_rfl
def Fe(l:List Nat):List Value:=l.map fun n=>Value.int .u32 (n:Nat)
theorem IN(l:List Nat):(Fe l).length=l.length:=by simp [Fe]
theorem IO(a b:List Nat):Fe (a++b)=Fe a++Fe b:=by simp [Fe]
def OwnN(base:Nat)(w:World)(v:Value)(l:List Nat):Prop:=w.ownsRow base 60 1 v l.length (Fe l)
theorem OwnN.nums{base:Nat}{w:World}{v:Value}{l:List Nat}(h:OwnN base w v l)(hl:∀ n∈l,n<4294967296):Nums w w.heap.size v l:=by
 rcases h.2 with⟨rfl,h0⟩ | ⟨g,cap,cur,rfl,hb,hg,h1,h2,h3,h4⟩
 ·rw [List.length_eq_zero_iff.1 h0];exact Nums.nil _ _
 ·refine⟨_,_,rfl,h1,(by simp),fun k hk=>⟨⟨g,0,none⟩,rfl,lt_of_block hg,hl _ (List.getElem_mem hk),?_⟩⟩
  exact World.ownsRow.cells h (g:=g) rfl k _ (by simp [Fe,hk])
theorem Nums.take{w:World}{B c:Nat}{a:Addr}{l:List Nat}(h:Nums w B (.slice (some a) l.length c) l){k:Nat}(hk:k≤l.length):Nums w B (.slice (some a) k c) (l.take k):=by
 obtain⟨A,c',e,e0,-,f⟩:=h
 simp only [Value.slice.injEq,true_and] at e
 obtain⟨rfl,rfl⟩:=e
 have hl:(l.take k).length=k:=by rw [List.length_take];omega
 refine⟨some a,c,by rw [hl],by omega,(by simp),fun i hi=>?_⟩
 obtain⟨a',e1,e2,e3,e4⟩:=f i (by omega)
 refine⟨a',e1,e2,?_,?_⟩
 ·rw [List.getElem_take];exact e3
 ·rw [List.getElem_take];exact e4
theorem Nums.lt{w:World}{B:Nat}{v:Value}{l:List Nat}(h:Nums w B v l):∀ n∈l,n<4294967296:=by
 obtain⟨A,c,-,-,-,f⟩:=h
 intro n hn
 obtain⟨i,hi,rfl⟩:=List.getElem_of_mem hn
 obtain⟨a,-,-,e,-⟩:=f i hi
 exact e
theorem Nums.cells{w:World}{B c n:Nat}{a:Addr}{l:List Nat}(h:Nums w B (.slice (some a) n c) l):∀ j u,(Fe l)[j]?=some u→w.cell? (a.add j)=some u:=by
 obtain⟨A,c',e,e0,-,f⟩:=h
 simp only [Value.slice.injEq] at e
 obtain⟨rfl,-,-⟩:=e
 intro j u hj
 have hj2:j<l.length:=by
  have:=(List.getElem?_eq_some_iff.1 hj).1
  rwa [IN] at this
 obtain⟨a',e1,-,-,e4⟩:=f j hj2
 simp only [Option.some.injEq] at e1
 subst e1
 rw [e4,← hj]
 simp [Fe,hj2]
theorem ED(l:List Nat):∀ u∈Fe l,u.oneCell'=true:=by
 intro u hu
 simp only [Fe,List.mem_map] at hu
 obtain⟨n,-,rfl⟩:=hu
 rfl
theorem OwnN.onto{base k:Nat}{w2:World}{v2:Value}{L M:List Nat}(h1:w2.ownsRow base 60 1 v2 (L.length+k) (Fe L++Fe M))(hk:k=M.length):OwnN base w2 v2 (L++M):=by
 subst hk
 unfold OwnN
 rw [IO,List.length_append]
 exact h1
theorem ET{base:Nat}{w0 wr w2:World}{v:Value}{L:List Nat}(hbel:Below base w0 wr)(hb:base≤wr.heap.size)(hown:OwnN base wr v L)(h2:wr.grownBy w2 v.ownBlock):Below base w0 w2:=
 hbel.grown h2 hb (fun k hk=>(World.ownsRow.lt hown k hk).1)
theorem Ju(w:World)(x:Value)(t:TypeId):∀ j u,[x][j]?=some u→(w.alloc (.cells #[x] t)).cell? ((⟨w.heap.size,0,none⟩:Addr).add j)=some u:=by
 intro j u hj
 match j,hj with
 | 0,hj=>simp at hj;subst hj;simp [Addr.add]
end
section
open Go.ChangeShapes Go.WideShapes Go.ChangeAt Go.RowKit
def DN(l:List Pce):Prop:=∀ i (h:i+1<l.length),(l[i]'(by omega)).n<l[i+1].n
theorem Oy{l:List Pce}(h:DN l)(i j:Nat)(hij:i<j)(hj:j<l.length):(l[i]'(by omega)).n<l[j].n:=by
 obtain⟨d,rfl⟩:∃ d,j=i+d+1:=⟨j - i - 1,by omega⟩
 induction d with
 | zero=>exact h i hj
 | succ d ih=>exact Int.lt_trans (ih (by omega) (by omega)) (h (i+d+1) hj)
theorem Ox(l:List Pce)(v:Value)(w:World)(R:Bool)(hR:Chk (DN l) R)(h1:1≤l.length)(hl:l.length≤1000)(ht:Pces w w.heap.size v l):
  Calls Tryz.prog 148 #[v] w fun e w'=>e=.returned (.bool R)∧D w w':=by
 have HT:=AC ht
 have HR:=AC hR
 obtain⟨A,c,rfl⟩:=ht.form
 obtain⟨N,hn⟩:∃ N,l.length=N:=⟨_,rfl⟩
 rw [hn] at HT hl h1 ⊢
 have HN:=AC hn
 clear ht hR hn
 go_enter Tryz.func148,Tryz.ntmps148
 go_wp2_with fail
 go_loopw [3,7] (fun _ I wr=>∃ i:Nat,i+1≤N∧I=.int .i64 i∧D w wr∧Hid (∀ j (hj:j<i) (h:j+1<l.length),(l[j]'(by omega)).n<l[j+1].n)) (fun _ I _=>N - (intOf I).toNat)
 case atStart=>exact⟨0,by omega,rfl,D.refl _,AC (fun j h=>by omega)⟩
 case round=>
  obtain⟨i,hil,rfl,d,HK⟩:=hrel
  by_cases hlt:i+1<N
  ·have hltL:i+1<l.length:=by have:=HN.out;omega
   obtain⟨a,c',hv,ha,-,hat⟩:=HT.out.pick i (by omega)
   obtain⟨a',c'',hv',ha',-,hat'⟩:=HT.out.pick (i+1) hltL
   injection hv with e1 e2 e3
   subst e1 e3
   injection hv' with f1 f2 f3
   injection f1 with f1
   subst f1
   obtain⟨m,rfl⟩:=d
   obtain⟨c0,-⟩:=hat w (Q.refl w)
   obtain⟨d0,-⟩:=hat' w (Q.refl w)
   have hilt:(i:Int)<(N:Int) - 1:=by omega
   have hi1:(i:Int)<(N:Int):=by omega
   have hi2:(i:Int)+1<(N:Int):=by omega
   have hi3:((i+1:Nat):Int)=(i:Int)+1:=by omega
   have YES:(l[i]'(by omega)).n<l[i+1].n→∀ j (hj:j<i+1) (h:j+1<l.length),(l[j]'(by omega)).n<l[j+1].n:=fun k j hj h=>by
    by_cases e:j=i
    ·subst e;exact k
    ·exact HK.out j (by omega) h
   have NO:¬ (l[i]'(by omega)).n<l[i+1].n→R=false:=fun k=>HR.out.no fun h=>k (h i hltL)
   obtain⟨x,hx⟩:∃ x,x=(l[i]'(by omega)).n:=⟨_,rfl⟩
   obtain⟨y,hy⟩:∃ y,y=l[i+1].n:=⟨_,rfl⟩
   rw [← hx] at c0 YES NO
   rw [← hy] at d0 YES NO
   clear hat hat' hx hy e2 f2 f3
   obtain⟨j,hj⟩:∃ j,j=i+1:=⟨_,rfl⟩
   rw [← hj] at d0 hi3 hlt
   have hjj:(i:Int)+1=(j:Int):=by omega
   by_cases hxy:x<y
   ·have HK2:=AC (YES hxy)
    have hge:¬ x≥y:=by omega
    have HJ:=AC hj
    clear YES NO hj hi3
    go_wp2_with fail
    go_region
    go_wp2
    go_roundw
    case rel=>exact⟨i+1,by have:=HJ.out;omega,by go_num,⟨m+1,by simp [Nat.add_comm]⟩,HK2⟩
    case measure=>simp [intOf];omega
   ·have HV:=AC (NO hxy)
    have hge:x≥y:=by omega
    clear YES NO hj hi3
    go_wp2_with fail
    go_region
    go_wp2
    go_ret
    exact⟨AE (by rw [HV.out]),(D.drewN ⟨m,rfl⟩ 1)⟩
  ·have HV:=AC (HR.out.yes fun j h=>HK.out j (by have:=HN.out;omega) h)
   have hilt:¬ (i:Int)<(N:Int) - 1:=by omega
   go_wp2
   go_ret
   exact⟨AE (by rw [HV.out]),d⟩
theorem OwnN.form{base:Nat}{w:World}{v:Value}{l:List Nat}(h:OwnN base w v l):∃ A c,v=.slice A l.length c:=by
 rcases h.2 with⟨e,h0⟩ | ⟨g,cap,cur,e,_⟩
 ·exact⟨none,0,by rw [e,h0]⟩
 ·exact⟨_,_,e⟩
theorem Oe(l:List Pce)(v:Value)(w:World)(hl:l.length≤1000)(ht:Pces w w.heap.size v l):
  Calls Tryz.prog 154 #[v] w fun e w'=>∃ v',e=.returned v'∧OwnN w.heap.size w' v' (l.map (·.tag))∧Q w w':=by
 obtain⟨i0,hi,hz0,hz1,hz2⟩:=info_parts Jb
 have HT:=AC ht
 obtain⟨A,c,rfl⟩:=ht.form
 obtain⟨N,hn⟩:∃ N,l.length=N:=⟨_,rfl⟩
 rw [hn] at HT hl ⊢
 have HN:=AC hn
 clear ht hn
 go_enter Tryz.func154,Tryz.ntmps154
 go_wp2_with fail
 go_loopw [3,5,8] (fun O _ I wr=>∃ (i:Nat) (M:List Nat) (A5:Option Addr) (n5 c5:Nat),O=.slice A5 n5 c5∧i≤N∧I=.int .i64 i∧M.length=i∧OwnN w.heap.size wr O M∧Q w wr∧Hid (M=(l.take i).map (·.tag))) (fun _ _ I _=>N - (intOf I).toNat)
 case atStart=>exact⟨0,[],none,0,0,rfl,Nat.zero_le _,rfl,rfl,World.ownsRow_nil _ _ _ _,Q.refl _,AC (by simp)⟩
 case round=>
  obtain⟨i,M,A5,n5,c5,rfl,hil,rfl,hM,o1,q,HM⟩:=hrel
  by_cases hlt:i<N
  ·have hltL:i<l.length:=by have:=HN.out;omega
   obtain⟨a,c',hv,ha,-,hat⟩:=HT.out.pick i hltL
   injection hv with e1 e2 e3
   subst e1 e3
   obtain⟨c0,c1⟩:=hat _ q
   have hilt:(i:Int)<(N:Int):=by omega
   have HX:Hid (M ++ [l[i].tag]=(l.take (i+1)).map (·.tag)):=AC (by rw [HM.out,List.take_succ_eq_append_getElem hltL,List.map_append];rfl)
   obtain⟨x,hx⟩:∃ x,x=l[i]:=⟨_,rfl⟩
   rw [← hx] at c0 c1 HX
   clear hat hx e2
   obtain⟨xn,xt⟩:=x
   simp only at c0 c1 HX
   have o2:OwnN w.heap.size (wr.alloc (.cells #[.int .i64 xn,.int .u32 (xt:Nat)] 67)) _ M:=World.ownsRow.alloc o1 _
   have q2:=q.alloc (.cells #[.int .i64 xn,.int .u32 (xt:Nat)] 67)
   have b0:=q.size
   have CO:∀ j u,(Fe [xt])[j]?=some u→((wr.alloc (.cells #[.int .i64 xn,.int .u32 (xt:Nat)] 67)).alloc (.cells #[.int .u32 (xt:Nat)] 60)).cell? ((⟨wr.heap.size+1,0,none⟩:Addr).add j)=some u:=by
    have:=Ju (wr.alloc (.cells #[.int .i64 xn,.int .u32 (xt:Nat)] 67)) (.int .u32 (xt:Nat)) 60
    rw [World.size_alloc] at this;exact this
   go_wp2_with (at_builtin;refine wpList_append_own _ rfl _ _ 180 rfl w.heap.size 60 i0 (.int .u32 0) 1 4 Tryz.underlying180 hi hz0 hz1 hz2 rfl (by decide) _ _ _ rfl (World.ownsRow.alloc o2 _) ⟨_,0,none⟩ 1 1 (Fe [xt]) rfl rfl CO (ED _) (by unfold maxLen;first | omega | (simp;try omega)) (by first | omega | (simp;try omega)) (by first | omega | (simp;try omega)) ?_;intro v3 w3 g3 g4 _;have r2:OwnN w.heap.size w3 v3 (M ++ [xt]):=OwnN.onto (L:=M) (M:=[xt]) g3 rfl;have b2:=ET (Below.alloc q2 (by first | omega | (simp;try omega)) _) (by first | omega | (simp;try omega)) (World.ownsRow.alloc o2 _) g4;clear g3 g4)
   obtain⟨A6,c6,rfl⟩:=r2.form
   go_roundw
   case rel=>exact⟨i+1,_,_,_,_,rfl,by omega,by go_num,by simp [hM],r2,b2,HX⟩
   case measure=>simp [intOf];omega
  ·have HV:Hid (M=l.map (·.tag)):=AC (by have:=HM.out;rw [List.take_of_length_le (by have:=HN.out;omega)] at this;exact this)
   have hilt:¬ (i:Int)<(N:Int):=by omega
   go_wp2
   go_ret
   exact⟨_,rfl,by rw [← HV.out];exact o1,q⟩
end
section
open Go.ChangeShapes Go.WideShapes Go.ChangeAt Go.RowKit
theorem Pk:(Tryz.prog.info? 219).map (·.size)=some 2:=by kernel_rfl
theorem Pd:liesAt Tryz.prog Tryz.prog.depth 219 (2/Tryz.prog.cellsOf 219) 0 219 1=true:=by kernel_rfl
theorem Pj:(Tryz.prog.info? 5).map (fun i=>(i.zero,i.size,i.bytes))=some (some (.int .u8 0),1,1):=by kernel_rfl
theorem No:Tryz.prog.cellsOf 5=1:=by kernel_rfl
def Bld(B b:Nat)(bs:List UInt8)(w:World):Prop:=Lib.IsBuilder 219 5 B b (Lib.byteCells bs) w
theorem LW(B b:Nat)(bs:List Value)(w:World)(h:Lib.IsBuilder 219 5 B b bs w):
  Calls Tryz.prog 182 #[.pointer (some ⟨b,0,none⟩)] w fun e w'=>e=.returned (.tuple #[])∧Lib.BuilderAt 219 5 B b (.pointer (some ⟨b,0,none⟩)) bs w'∧Below B w w':=by
 obtain⟨j,hj,hjs⟩:=Option.map_eq_some_iff.1 Pk
 rcases h with h | h
 ·have h0:=h.cell0
  have hsh:=h.shape
  have hfz:=h.frozen0
  have HE:=AC (And.intro (h.used (.pointer (some ⟨b,0,none⟩))) ((Below.refl B w).setCell (p:=⟨b,0,none⟩) h.1 (.pointer (some ⟨b,0,none⟩))))
  clear h
  go_enter Tryz.func182,Tryz.ntmps182
  go_wp2
  rw [Lib.run_to_unsafe w ⟨b,0,none⟩ Tryz.underlying217 Tryz.underlying237 hj (by rw [hjs];decide) hsh (Nat.zero_lt_succ 1)]
  simp only [Result.andThen]
  rw [Oper.upon_value]
  go_wp2
  rw [run_callFunc_extern Tryz.func185 (by kernel_rfl) (by kernel_rfl) (by kernel_rfl) (e:=Extern.AbiNoEscape.same) (by kernel_rfl)]
  rw [Lib.run_noEscape]
  simp only [Result.andThen]
  rw [Oper.upon_value]
  go_wp2
  rw [Lib.run_from_unsafe w ⟨b,0,none⟩ Tryz.underlying237 Tryz.underlying217 hj hsh Pd]
  simp only [Result.andThen]
  rw [Oper.upon_value]
  go_wp2
  go_end0
  exact⟨rfl,HE.out⟩
 ·have h0:=h.cell0
  have HE:=AC h
  clear h
  go_enter Tryz.func182,Tryz.ntmps182
  go_wp2
  rw [Lib.run_neq_ptr_same w _ Tryz.underlying217 hj]
  go_wp2
  go_end0
  exact⟨rfl,HE.out,Below.refl B _⟩
theorem LR(B b:Nat)(bs:List UInt8)(s:ByteArray)(w:World)(h:Bld B b bs w)(hl:bs.length+s.size≤140737488355328)(hB:B≤w.heap.size):
  Calls Tryz.prog 168 #[.pointer (some ⟨b,0,none⟩),.string s] w fun e w'=>e=.returned (.tuple #[.int .i64 s.size,.nilIface])∧Bld B b (bs++bl s) w'∧Below B w w':=by
 obtain⟨i0,hi,hz0,hz1,hz2⟩:=info_parts Pj
 have C:=AC (LW B b _ w h)
 have hlen:=Lib.byteCells_length bs
 have HX:Hid (Lib.byteCells (bs++bl s)=Lib.byteCells bs++Lib.strCells s):=AC (by rw [Lib.byteCells_append,Lib.strCells_eq];rfl)
 obtain⟨cs,hcs⟩:∃ cs,cs=Lib.byteCells bs:=⟨_,rfl⟩
 rw [← hcs] at C hlen HX
 clear hcs h
 go_enter Tryz.func168,Tryz.ntmps168
 go_wp2_with fail
 refine(C.out).mono ?_
 rintro e w1 ⟨rfl,h1,hb1⟩
 obtain⟨hBb,v,hbk,hown,hne⟩:=h1
 have c0:w1.cell? ⟨b,0,none⟩=some (.pointer (some ⟨b,0,none⟩)):=by rw [Lib.cell_of_heap hbk];rfl
 have c1:w1.cell? ⟨b,1,none⟩=some v:=by rw [Lib.cell_of_heap hbk];rfl
 go_wp2_with (at_builtin;refine Lib.wpList_append_own_string _ rfl _ _ 209 9 rfl B 5 i0 Tryz.underlying209 Tryz.underlying9 hi hz0 hz1 hz2 _ _ _ rfl hown s rfl ?c3 ?c4 ?c5 ?_)
 case c3=>unfold maxLen;omega
 case c4=>omega
 case c5=>have:=hb1.size;omega
 intro v' w2 hown' hgrow _
 have hlt:b<w1.heap.size:=by
  rcases Nat.lt_or_ge b w1.heap.size with h' | h'
  ·exact h'
  ·simp [Array.getElem?_eq_none h'] at hbk
 have hb2:w2.heap[b]?=some (.cells #[.pointer (some ⟨b,0,none⟩),v] 219 (0,0)):=by
  rw [hgrow.block b hlt (fun e=>hne e.symm)]
  exact hbk
 have d0:w2.cell? ⟨b,0,none⟩=some (.pointer (some ⟨b,0,none⟩)):=by rw [Lib.cell_of_heap hb2];rfl
 have d1:w2.cell? ⟨b,1,none⟩=some v:=by rw [Lib.cell_of_heap hb2];rfl
 have f1:w2.frozen? ⟨b,1,none⟩=false:=Lib.frozen_of_heap hb2 1
 obtain⟨ao,n',cap,rfl⟩:∃ ao n' cap,v'=.slice ao n' cap:=by
  rcases hown'.2 with⟨hv,_⟩ | ⟨g,cap,cur,hv,_⟩
  ·exact⟨_,_,_,hv⟩
  ·exact⟨_,_,_,hv⟩
 go_wp2
 go_ret2
 refine⟨rfl,?_,?_⟩
 ·unfold Bld
  rw [HX.out]
  exact .inr (Lib.BuilderAt.put (T:=219) (e:=5) hBb hb2 (bs':=cs++Lib.strCells s) (by simpa [Lib.strCells_length,hlen] using hown') (by decide))
 ·exact(hb1.grown hgrow (by have:=hb1.size;omega) (fun k hk=>(hown.lt k hk).1)).setCell (p:=⟨b,1,none⟩) hBb _
theorem I9(B b:Nat)(l:List UInt8)(w:World)(h:Bld B b l w)(hB:B≤w.heap.size):
  Calls Tryz.prog 169 #[.pointer (some ⟨b,0,none⟩)] w fun e w'=>e=.returned (.string (mk l))∧Below B w w':=by
 obtain⟨p,hBb,v,hbk,hown,hne⟩:∃ p,Lib.BuilderAt 219 5 B b p (Lib.byteCells l) w:=by
  rcases h with h | h
  ·exact⟨_,h⟩
  ·exact⟨_,h⟩
 have hlt:b<w.heap.size:=by
  rcases Nat.lt_or_ge b w.heap.size with h' | h'
  ·exact h'
  ·simp [Array.getElem?_eq_none h'] at hbk
 have hUN:∀ (W:World) (q:Option Addr),(Builtin.unsafeString_ #[233,3] 9 #[.pointer q,.int .i64 0]).run Tryz.prog W=.ok (.string .empty) W:=fun W q=>Lib.run_unsafeString_none W _ _ _ q
 rw [Lib.byteCells_length] at hown
 rcases hown.2 with⟨rfl,hz⟩ | ⟨g,cap,cur,rfl,hbg,hg,hnc,hcm,hcs,htake⟩
 ·obtain rfl:=List.length_eq_zero_iff.1 hz
  have c1:w.drew.cell? ⟨b,1,none⟩=some (.slice none 0 0):=by
   have:w.drew.heap[b]?=some (.cells #[p,.slice none 0 0] 219 (0,0)):=hbk
   rw [Lib.cell_of_heap this];rfl
  have hSD:(Builtin.unsafeSliceData_ #[209] 233 #[.slice none 0 0]).run Tryz.prog w.drew=.ok (.pointer none) w.drew:=rfl
  clear hown hbk hne
  go_enter Tryz.func169,Tryz.ntmps169
  go_wp2
  go_region
  all_goals (go_wp2;go_ret;exact⟨rfl,Below.drew (Below.refl B w)⟩)
 ·by_cases h0:l=[]
  ·subst h0
   by_cases hc0:cap=0
   ·subst hc0
    have c1:w.drew.cell? ⟨b,1,none⟩=some (.slice (some ⟨g,0,none⟩) 0 0):=by
     have:w.drew.heap[b]?=some (.cells #[p,.slice (some ⟨g,0,none⟩) 0 0] 219 (0,0)):=hbk
     rw [Lib.cell_of_heap this];rfl
    have hSD:(Builtin.unsafeSliceData_ #[209] 233 #[.slice (some ⟨g,0,none⟩) 0 0]).run Tryz.prog w.drew=.ok (.pointer (some ⟨w.drew.heap.size,0,none⟩)) (w.drew.alloc (.view ⟨g,0,none⟩ 5)):=
     Lib.run_unsafeSliceData_zero w.drew _ _ 5 Tryz.underlying233 ⟨g,0,none⟩ 0 (5,cur.size) (by have hg':w.drew.heap[g]?=some (.cells cur 5 (0,0)):=hg;simp [World.shape?,hg'])
    have c2:(w.drew.alloc (.view ⟨g,0,none⟩ 5)).cell? ⟨b,1,none⟩=some (.slice (some ⟨g,0,none⟩) 0 0):=by
     have:(w.drew.alloc (.view ⟨g,0,none⟩ 5)).heap[b]?=_:=(Lib.alloc_old w.drew _ b hlt).trans hbk
     rw [Lib.cell_of_heap this];rfl
    have c3:(w.alloc (.view ⟨g,0,none⟩ 5)).drew.cell? ⟨b,1,none⟩=some (.slice (some ⟨g,0,none⟩) 0 0):=c2
    have c4:w.cell? ⟨b,1,none⟩=some (.slice (some ⟨g,0,none⟩) 0 0):=c1
    clear hown hbk hne hnc hcm hcs htake hg
    go_enter Tryz.func169,Tryz.ntmps169
    go_wp2
    go_region
    all_goals (go_wp2;go_ret;exact⟨rfl,(Below.drew (Below.refl B w)).alloc hB _⟩)
   ·have c1:w.drew.cell? ⟨b,1,none⟩=some (.slice (some ⟨g,0,none⟩) 0 cap):=by
     have:w.drew.heap[b]?=some (.cells #[p,.slice (some ⟨g,0,none⟩) 0 cap] 219 (0,0)):=hbk
     rw [Lib.cell_of_heap this];rfl
    have hSD:(Builtin.unsafeSliceData_ #[209] 233 #[.slice (some ⟨g,0,none⟩) 0 cap]).run Tryz.prog w.drew=.ok (.pointer (some ⟨g,0,none⟩)) w.drew:=Lib.run_unsafeSliceData_row _ _ _ _ _ _ hc0
    clear hown hbk hne hnc hcm hcs htake hg hc0
    go_enter Tryz.func169,Tryz.ntmps169
    go_wp2
    go_region
    all_goals (go_wp2;go_ret;exact⟨rfl,Below.drew (Below.refl B w)⟩)
  ·have hl0:l.length≠0:=by simpa using h0
   have c1:w.drew.cell? ⟨b,1,none⟩=some (.slice (some ⟨g,0,none⟩) l.length cap):=by
    have:w.drew.heap[b]?=some (.cells #[p,.slice (some ⟨g,0,none⟩) l.length cap] 219 (0,0)):=hbk
    rw [Lib.cell_of_heap this];rfl
   have hSD:(Builtin.unsafeSliceData_ #[209] 233 #[.slice (some ⟨g,0,none⟩) l.length cap]).run Tryz.prog w.drew=.ok (.pointer (some ⟨g,0,none⟩)) w.drew:=Lib.run_unsafeSliceData_row _ _ _ _ _ _ (by omega)
   have hUS:(Builtin.unsafeString_ #[233,3] 9 #[.pointer (some ⟨g,0,none⟩),.int .i64 l.length]).run Tryz.prog w.drew=.ok (.string ⟨l.toArray⟩) (w.drew.freeze ⟨g,0,none⟩ l.length):=by
    refine Lib.run_unsafeString_row w.drew 233 3 9 5 Tryz.underlying233 No g cur.size (by have hg':w.drew.heap[g]?=some (.cells cur 5 (0,0)):=hg;simp [World.shape?,hg']) l h0 (by omega) (by unfold maxLen at hcm;omega) ?_
    intro j x hx
    have:=hown.cells (g:=g) rfl j (.int .u8 x.toNat) (by simp [Lib.byteCells,hx])
    exact this
   clear hUN hown hbk hne hnc hcm hcs htake hg h0 hl0
   go_enter Tryz.func169,Tryz.ntmps169
   go_wp2
   go_region
   all_goals (go_wp2;go_ret;exact⟨rfl,Lib.below_freeze (Below.drew (Below.refl B w)) (p:=⟨g,0,none⟩) hbg _⟩)
theorem Bld.on{B b:Nat}{l:List UInt8}{w w':World}(h:Bld B b l w)(q:Q w w'):Bld B b l w':=by
 have k:∀ p,Lib.BuilderAt 219 5 B b p (Lib.byteCells l) w→Lib.BuilderAt 219 5 B b p (Lib.byteCells l) w':=by
  rintro p ⟨hB,v,hbk,hown,hne⟩
  have hlt:b<w.heap.size:=Lib.BuilderAt.lt ⟨hB,v,hbk,hown,hne⟩
  refine⟨hB,v,(q.block b hlt).trans hbk,?_,hne⟩
  rcases hown.2 with⟨e,hz⟩ | ⟨g,cap,cur,e,hbg,hg,r⟩
  ·exact⟨hown.1,.inl ⟨e,hz⟩⟩
  ·exact⟨hown.1,.inr ⟨g,cap,cur,e,hbg,(q.block g (lt_of_block hg)).trans hg,r⟩⟩
 rcases h with h | h
 ·exact .inl (k _ h)
 ·exact .inr (k _ h)
noncomputable def catB (L:List Prt) (l:List Pce):List UInt8:=l.flatMap fun x=>bl (partD L x.n)
theorem Fm{L:List Prt}(h:∀ p∈L,p.data.size≤5000)(n:Int):(partD L n).size≤5000:=by
 obtain⟨p,b,hp⟩:=B7 L n
 rw [CW hp]
 cases hp with
 | yes i hi _ _=>exact h _ (List.getElem_mem hi)
 | no _=>show(0:Nat)≤5000;omega
theorem Nr{L:List Prt}{l:List Pce}{i:Nat}(h:i<l.length):catB L (l.take (i+1))=catB L (l.take i)++bl (partD L l[i].n):=by
 rw [List.take_succ_eq_append_getElem h,catB,catB,List.flatMap_append];simp
theorem Nq{L:List Prt}(h:∀ p∈L,p.data.size≤5000)(l:List Pce):(catB L l).length≤5000*l.length:=by
 induction l with
 | nil=>simp [catB]
 | cons y r ih=>
   have:=Fm h y.n
   simp only [catB,List.flatMap_cons,List.length_append,List.length_cons,Ba] at ih ⊢;omega
theorem PV(L:List Prt)(v:Value)(l:List Pce)(u:Value)(w:World)(hl:L.length≤1000)(hd:∀ p∈L,p.data.size≤5000)(hc:l.length≤1000)(ht:Prts w w.heap.size v L)(hu:Pces w w.heap.size u l):
  Calls Tryz.prog 152 #[v,u] w fun e w'=>e=.returned (.string (mk (catB L l)))∧Q w w':=by
 have HT:=AC ht
 have HU:=AC hu
 obtain⟨A,c,rfl⟩:=ht.form
 obtain⟨A2,c2,rfl⟩:=hu.form
 obtain⟨N,hn⟩:∃ N,L.length=N:=⟨_,rfl⟩
 obtain⟨M,hm⟩:∃ M,l.length=M:=⟨_,rfl⟩
 have P:Hid (∀ n d,Q w d→∃ b,Calls Tryz.prog 167 #[.slice A L.length c,.int .i64 n] d fun e w'=>(∃ k,e=.returned (.tuple #[.agg #[.int .i64 k,.string (partD L n)],.bool b]))∧Q d w'):=AC fun n d q=>by
  obtain⟨p,b,hp⟩:=B7 L n
  refine⟨b,(GN L _ n d p b hp hl (ht.on q)).mono ?_⟩
  rintro e w' ⟨rfl,q'⟩
  exact⟨⟨p.n,by rw [CW hp]⟩,q'⟩
 have HD:=AC hd
 rw [hn] at P ⊢
 rw [hm] at HU hc ⊢
 have HM:=AC hm
 have I0:Bld w.heap.size w.heap.size [] (w.alloc (.cells #[.pointer none,.slice none 0 0] 219)):=Lib.fresh_isBuilder _ _ w
 have q0:Below w.heap.size w (w.alloc (.cells #[.pointer none,.slice none 0 0] 219)):=(Below.refl _ w).alloc (Nat.le_refl _) _
 clear ht hu hd hn hm hl HT
 go_enter Tryz.func152,Tryz.ntmps152
 go_wp2_with fail
 go_loopw [7,8,9,13] (fun _ _ _ I wr=>∃ (i:Nat) (acc:List UInt8),i≤M∧I=.int .i64 i∧Bld w.heap.size w.heap.size acc wr∧Q w wr∧Hid (acc=catB L (l.take i))) (fun _ _ _ I _=>M - (intOf I).toNat)
 case atStart=>exact⟨0,[],Nat.zero_le _,rfl,I0,q0,AC (by simp [catB])⟩
 case round=>
  obtain⟨i,acc,hil,rfl,bd,q,HC⟩:=hrel
  clear I0 q0
  by_cases hlt:i<M
  ·have hltL:i<l.length:=by have:=HM.out;omega
   obtain⟨a,c',hv,ha,-,hat⟩:=HU.out.pick i hltL
   injection hv with e1 e2 e3
   subst e1 e3
   obtain⟨c0,c1⟩:=hat _ q
   have hilt:(i:Int)<(M:Int):=by omega
   have HX:Hid (acc++bl (partD L l[i].n)=catB L (l.take (i+1))):=AC (by rw [HC.out,Nr hltL])
   have hb1:acc.length≤5000000:=by
    have h1:=Nq HD.out (l.take i)
    have h2:(l.take i).length≤i:=List.length_take_le ..
    rw [HC.out];omega
   have hb2:=Fm HD.out l[i].n
   obtain⟨x,hx⟩:∃ x,x=l[i]:=⟨_,rfl⟩
   rw [← hx] at c0 c1 HX hb2
   clear hat hx e2
   obtain⟨xn,xt⟩:=x
   simp only at c0 c1 HX hb2
   have q2:=q.alloc (.cells #[.int .i64 xn,.int .u32 (xt:Nat)] 67)
   have bd2:=bd.on ((Q.refl wr).alloc (.cells #[.int .i64 xn,.int .u32 (xt:Nat)] 67))
   obtain⟨b,C⟩:=P.out xn _ q2
   obtain⟨s,hs⟩:∃ s,s=partD L xn:=⟨_,rfl⟩
   rw [← hs] at C HX hb2
   have C:=AC C
   clear hs
   go_wp2_with fail
   refine(C.out).mono ?_
   rintro e w3 ⟨⟨k,rfl⟩,q3⟩
   have q4:=q2.trans (q3.alloc (.cells #[.int .i64 k,.string s] 64))
   have bd4:=bd2.on (q3.alloc (.cells #[.int .i64 k,.string s] 64))
   have W:=AC (LR _ _ _ s _ bd4 (by omega) q4.size)
   clear bd bd2
   go_wp2_with fail
   refine(W.out).mono ?_
   rintro e w5 ⟨rfl,bd5,q5⟩
   have q6:Q w w5:=Below.trans q4 q5
   go_wp2_with fail
   go_roundw
   case rel=>exact⟨i+1,_,by omega,by go_num,bd5,q6,HX⟩
   case measure=>simp [intOf];omega
  ·have HV:Hid (acc=catB L l):=AC (by have:=HC.out;rw [List.take_of_length_le (by have:=HM.out;omega)] at this;exact this)
   have hilt:¬ (i:Int)<(M:Int):=by omega
   have S:=AC (I9 _ _ _ _ bd q.size)
   go_wp2_with fail
   refine(S.out).mono ?_
   rintro e w5 ⟨rfl,q5⟩
   go_wp2
   go_ret
   exact⟨by rw [HV.out];rfl,Below.trans q q5⟩
end
section
open Go.ChangeShapes Go.WideShapes Go.ChangeAt Go.RowKit
def Pp(l:List Pce)(f:Pce→Bool):Int:=match l.findIdx? f with
 | some i=>(i:Int)
 | none=>-1
theorem Pn{l:List Pce}{f:Pce→Bool}{i:Nat}(hl:i<l.length)(h:f l[i]=true)(k:∀ j (hj:j<i) (hl:j<l.length),f l[j]=false):Pp l f=i:=by
 have:l.findIdx? f=some i:=by
  rw [List.findIdx?_eq_some_iff_getElem]
  exact⟨hl,h,fun j hj=>by simpa using k j hj (by omega)⟩
 rw [Pp,this]
theorem Mz{l:List Pce}{f:Pce→Bool}(k:∀ j (hl:j<l.length),f l[j]=false):Pp l f = -1:=by
 have:l.findIdx? f=none:=by
  rw [List.findIdx?_eq_none_iff]
  intro x hx
  obtain⟨j,hj,rfl⟩:=List.getElem_of_mem hx
  exact k j hj
 rw [Pp,this]
theorem Po(l:List Pce)(f:Pce→Bool):(l.any f=true∧∃ i:Nat,Pp l f=i∧i<l.length)∨(l.any f=false∧Pp l f = -1):=by
 cases h:l.findIdx? f with
 | none=>
   right
   refine⟨?_,by rw [Pp,h]⟩
   rw [List.findIdx?_eq_none_iff] at h
   rw [List.any_eq_false]
   intro x hx
   simpa using h x hx
 | some i=>
   left
   have h2:=h
   rw [List.findIdx?_eq_some_iff_getElem] at h2
   obtain⟨hi,hf,-⟩:=h2
   exact⟨List.any_eq_true.2 ⟨_,List.getElem_mem hi,hf⟩,i,by rw [Pp,h],hi⟩
theorem Kv(g:Nat)(A0:Option Addr)(n0 c0:Nat)(f:Pce→Bool)(l:List Pce)(v:Value)(w:World)(eg:∀ args w,(callFunc g args).run Tryz.prog w=.ok (.enter g args) w)
  (hp:∀ x b,Q w b→Calls Tryz.prog g #[.slice A0 n0 c0,pce x] b fun e w'=>e=.returned (.bool (f x))∧Q b w')
  (hl:l.length≤1000) (ht:Pces w w.heap.size v l) :
  Calls Tryz.prog 166 #[v,.func (.func g) #[.slice A0 n0 c0] #[]] w fun e w'=>e=.returned (.int .i64 (Pp l f))∧Q w w':=by
 have HT:=AC ht
 have HP:=AC hp
 obtain⟨A,c,rfl⟩:=ht.form
 clear ht hp
 go_enter Tryz.func166,Tryz.ntmps166
 go_wp2_with fail
 go_loopw [5,8] (fun _ I wr=>∃ i:Nat,i≤l.length∧I=.int .i64 i∧Q w wr∧Hid (∀ j (hj:j<i) (hl:j<l.length),f l[j]=false)) (fun _ I _=>l.length - (intOf I).toNat)
 case atStart=>exact⟨0,Nat.zero_le _,rfl,Q.refl _,AC (fun j h=>by omega)⟩
 case round=>
  obtain⟨i,hil,rfl,q,HK⟩:=hrel
  by_cases hlt:i<l.length
  ·obtain⟨a,c',hv,ha,-,hat⟩:=HT.out.pick i hlt
   injection hv with e1 e2 e3
   subst e1 e3
   obtain⟨d0,d1⟩:=hat _ q
   have C:=HP.out l[i] wr q
   simp only [pce] at C
   cases hpx:f l[i] with
   | true=>
     have HV:=AC (Pn hlt hpx HK.out)
     rw [hpx] at C
     obtain⟨x,hx⟩:∃ x,x=l[i]:=⟨_,rfl⟩
     rw [← hx] at d0 d1 C
     have C:=AC C
     clear hx hpx hat
     go_wp2_with (go_at_fn g;refine(C.out).mono ?_;rintro e w1 ⟨rfl,q1⟩)
     go_ret
     exact⟨by rw [HV.out];rfl,q.trans q1⟩
   | false=>
     have HK2:Hid (∀ j (hj:j<i+1) (hl:j<l.length),f l[j]=false):=AC (fun j hj hl=>by
      by_cases e:j=i
      ·subst e;exact hpx
      ·exact HK.out j (by omega) hl)
     rw [hpx] at C
     obtain⟨x,hx⟩:∃ x,x=l[i]:=⟨_,rfl⟩
     rw [← hx] at d0 d1 C
     have C:=AC C
     clear hx hpx hat
     go_wp2_with (go_at_fn g;refine(C.out).mono ?_;rintro e w1 ⟨rfl,q1⟩)
     go_roundw
     case rel=>exact⟨i+1,by omega,by go_num,q.trans q1,HK2⟩
     case measure=>simp [intOf];omega
  ·have HV:=AC (Mz (l:=l) (f:=f) (fun j hl=>HK.out j (by omega) hl))
   go_wp2
   go_ret
   exact⟨by rw [HV.out];rfl,q⟩
theorem Dd(g:Nat)(A0:Option Addr)(n0 c0:Nat)(f:Pce→Bool)(l:List Pce)(v:Value)(w:World)(eg:∀ args w,(callFunc g args).run Tryz.prog w=.ok (.enter g args) w)
  (hp:∀ x b,Q w b→Calls Tryz.prog g #[.slice A0 n0 c0,pce x] b fun e w'=>e=.returned (.bool (f x))∧Q b w')
  (hl:l.length≤1000) (ht:Pces w w.heap.size v l) :
  Calls Tryz.prog 149 #[v,.func (.func g) #[.slice A0 n0 c0] #[]] w fun e w'=>e=.returned (.bool (l.any f))∧Q w w':=by
 have C:=AC (Kv g A0 n0 c0 f l v w eg hp hl ht)
 obtain⟨A,c,rfl⟩:=ht.form
 rcases Po l f with⟨ha,i,hi,hlt⟩ | ⟨ha,hi⟩
 ·rw [hi] at C
  have hge:(i:Int)≥0:=by omega
  have HV:=AC ha
  clear ha hi hlt hp ht eg
  go_enter Tryz.func149,Tryz.ntmps149
  go_wp2_with fail
  refine(C.out).mono ?_
  rintro e w1 ⟨rfl,q1⟩
  go_wp2
  go_ret
  exact⟨AE (by rw [HV.out];(try rfl);try (simp;try omega)),q1⟩
 ·rw [hi] at C
  have HV:=AC ha
  clear ha hi hp ht eg
  go_enter Tryz.func149,Tryz.ntmps149
  go_wp2_with fail
  refine(C.out).mono ?_
  rintro e w1 ⟨rfl,q1⟩
  go_wp2
  go_ret
  exact⟨AE (by rw [HV.out];(try rfl);try (simp;try omega)),q1⟩
theorem P8:∀ args w,(callFunc 150 args).run Tryz.prog w=.ok (.enter 150 args) w:=enters_of Tryz.func150 (by kernel_rfl) rfl
theorem P9:∀ args w,(callFunc 151 args).run Tryz.prog w=.ok (.enter 151 args) w:=enters_of Tryz.func151 (by kernel_rfl) rfl
theorem Hs(L:List Prt)(u:Value)(l:List Pce)(v:Value)(w:World)(hL:L.length≤1000)(hd:∀ p∈L,p.data.size≤5000)(hl:l.length≤1000)(hu:Prts w w.heap.size u L)(ht:Pces w w.heap.size v l):
  Calls Tryz.prog 149 #[v,.func (.func 150) #[u] #[]] w fun e w'=>e=.returned (.bool (l.any (lackB L)))∧Q w w':=by
 obtain⟨A,c,rfl⟩:=hu.form
 exact Dd _ A _ c (lackB L) l v w P8 (fun x b q=>Ks L _ x b hL hd (hu.on q)) hl ht
theorem Ht(L:List Prt)(u:Value)(l:List Pce)(v:Value)(w:World)(hL:L.length≤1000)(hd:∀ p∈L,p.data.size≤5000)(hl:l.length≤1000)(hu:Prts w w.heap.size u L)(ht:Pces w w.heap.size v l):
  Calls Tryz.prog 149 #[v,.func (.func 151) #[u] #[]] w fun e w'=>e=.returned (.bool (l.any (lackO L)))∧Q w w':=by
 obtain⟨A,c,rfl⟩:=hu.form
 exact Dd _ A _ c (lackO L) l v w P9 (fun x b q=>Kt L _ x b hL hd (hu.on q)) hl ht
end
section
open Go.ChangeShapes Go.WideShapes Go.ChangeAt Go.RowKit
theorem Pces.cutTake{w:World}{B:Nat}{A:Option Addr}{n c:Nat}{l:List Pce}(h:Pces w B (.slice A n c) l){i:Nat}(hi:i≤l.length):Pces w B (.slice A i c) (l.take i):=by
 obtain⟨A,c',e,e0,ez,eo,f⟩:=h
 injection e with e1 e2 e3
 subst e1 e2 e3
 have hlen:(l.take i).length=i:=by rw [List.length_take];omega
 refine⟨_,_,by rw [hlen],by omega,ez,fun x hx=>eo x (List.mem_of_mem_take hx),fun k hk=>?_⟩
 obtain⟨a',e1,e2,e3⟩:=f k (by omega)
 exact⟨a',e1,e2,by rw [List.getElem_take];exact e3⟩
theorem Pces.cutDrop{w:World}{B:Nat}{a:Addr}{n c:Nat}{l:List Pce}(h:Pces w B (.slice (some a) n c) l){i:Nat}(hi:i≤l.length):Pces w B (.slice (some (a.add (i*2))) (l.length - i) (c - i)) (l.drop i):=by
 obtain⟨A,c',e,e0,ez,eo,f⟩:=h
 injection e with e1 e2 e3
 subst e1 e2 e3
 have hlen:(l.drop i).length=l.length - i:=by rw [List.length_drop]
 refine⟨_,_,by rw [hlen],by omega,(by simp),fun x hx=>eo x (List.mem_of_mem_drop hx),fun k hk=>?_⟩
 rw [hlen] at hk
 obtain⟨a',e1,e2,e3⟩:=f (i+k) (by omega)
 injection e1 with e1
 subst e1
 refine⟨_,rfl,by rw [AG];exact e2,?_⟩
 rw [Jz,List.getElem_drop,← Nat.add_mul];exact e3
theorem Pces.cutEnd{w:World}{B:Nat}{A:Option Addr}{l:List Pce}(hl:l=[]):Pces w B (.slice A 0 0) l:=by
 subst hl
 exact⟨_,_,rfl,Nat.le_refl _,fun _=>rfl,by simp,fun k h=>absurd h (by simp)⟩
inductive WholeC(u:Upl)(l:List Pce):List UInt8→List UInt8→Nat→Prop
 | arg:¬ (DF u∧1≤l.length)→WholeC u l [] [] 1
 | order:DF u→1≤l.length→¬ DN l→WholeC u l [] [] 9
 | none:DF u→1≤l.length→DN l→l.any (lackB u.L)=true→WholeC u l [] [] 4
 | short:DF u→1≤l.length→DN l→l.any (lackB u.L)=false→(l.take (l.length - 1)).any (lackO u.L)=true→WholeC u l [] [] 3
 | large:DF u→1≤l.length→DN l→l.any (lackB u.L)=false→(l.take (l.length - 1)).any (lackO u.L)=false→2000<(catB u.L l).length→WholeC u l [] [] 6
 | yes:DF u→1≤l.length→DN l→l.any (lackB u.L)=false→(l.take (l.length - 1)).any (lackO u.L)=false→¬ 2000<(catB u.L l).length→WholeC u l (catB u.L l) (DA (l.map (·.tag))) 0
theorem Lq(u:Upl)(l:List Pce):∃ s t e,WholeC u l s t e:=by
 by_cases h:DF u∧1≤l.length
 ·by_cases h2:DN l
  ·cases h3:l.any (lackB u.L) with
   | true=>exact⟨_,_,_,.none h.1 h.2 h2 h3⟩
   | false=>
     cases h4:(l.take (l.length - 1)).any (lackO u.L) with
     | true=>exact⟨_,_,_,.short h.1 h.2 h2 h3 h4⟩
     | false=>
       by_cases h5:2000<(catB u.L l).length
       ·exact⟨_,_,_,.large h.1 h.2 h2 h3 h4 h5⟩
       ·exact⟨_,_,_,.yes h.1 h.2 h2 h3 h4 h5⟩
  ·exact⟨_,_,_,.order h.1 h.2 h2⟩
 ·exact⟨_,_,_,.arg h⟩
theorem OwnN.low{base b2:Nat}{w:World}{v:Value}{l:List Nat}(h:OwnN base w v l)(k:b2≤base):OwnN b2 w v l:=by
 rcases h.2 with⟨rfl,h0⟩ | ⟨g,cap,cur,rfl,hb,r⟩
 ·exact⟨h.1,.inl ⟨rfl,h0⟩⟩
 ·exact⟨h.1,.inr ⟨g,cap,cur,rfl,by omega,r⟩⟩
theorem Mi:∀ (l L:List Int),l.Nodup→(∀ x∈l,x∈L)→l.length≤L.length:=by
 intro l
 induction l with
 | nil=>intro L _ _;exact Nat.zero_le _
 | cons x r ih=>
   intro L hn hs
   have hx:x∈L:=hs x (List.mem_cons_self ..)
   rw [List.nodup_cons] at hn
   have:=ih (L.erase x) hn.2 fun y hy=>by
    have hne:y≠x:=fun e=>hn.1 (e▸hy)
    exact(List.mem_erase_of_ne hne).2 (hs y (List.mem_cons_of_mem _ hy))
   rw [List.length_erase_of_mem hx] at this
   have hp:=List.length_pos_of_mem hx
   simp only [List.length_cons];omega
theorem Mt{L:List Prt}{x:Pce}(h:lackB L x=false):∃ p,PartC L x.n p true:=by
 obtain⟨p,b,hp⟩:=B7 L x.n
 cases b with
 | true=>exact⟨p,hp⟩
 | false=>rw [GU hp] at h;simp at h
theorem G5{u:Upl}{l:List Pce}(h:DF u)(hr:DN l)(hk:l.any (lackB u.L)=false):l.length≤30:=by
 have h1:(l.map (·.n)).length≤(u.L.map (·.n)).length:=by
  refine Mi _ _ ?_ ?_
  ·rw [List.nodup_iff_pairwise_ne,List.pairwise_iff_getElem]
   intro i j hi hj hij
   rw [List.getElem_map,List.getElem_map]
   have:=Oy hr i j hij (by simpa using hj)
   omega
  ·intro x hx
   rw [List.mem_map] at hx
   obtain⟨y,hy,rfl⟩:=hx
   rw [List.any_eq_false] at hk
   obtain⟨p,hp⟩:=Mt (by simpa using hk y hy)
   cases hp with
   | yes i hi e _=>rw [List.mem_map];exact⟨_,List.getElem_mem hi,e⟩
 rw [List.length_map,List.length_map] at h1
 have:=h.2.1
 omega
theorem Lp(u:Upl)(v:Value)(l:List Pce)(z:Value)(w:World)(s t:List UInt8)(e:Nat)(h:WholeC u l s t e)(hs:smU u)(hc:l.length≤1000)(ht:Prts w w.heap.size v u.L)(hz:Pces w w.heap.size z l):
  Calls Tryz.prog 115 #[upl u v,z] w fun r w'=>r=.returned (.tuple #[.string (mk s),.string (mk t),.int .i64 (e:Nat)])∧Q w w':=by
 have HT:=AC ht
 have HZ:=AC hz
 have HH:=AC h
 obtain⟨id,key,L⟩:=u
 have hL:L.length≤1000:=hs.2.1
 have hd:=hs.2.2
 simp only at ht hd
 have MAY:∀ R,Chk (DF ⟨id,key,L⟩) R→∀ d,Q w d→Calls Tryz.prog 95 #[upl ⟨id,key,L⟩ v] d fun e w'=>e=.returned (.bool R)∧Q d w':=fun R hR d q=>JU _ v d R hR hs (ht.on q)
 have RISE:∀ R,Chk (DN l) R→1≤l.length→∀ d,Q w d→Calls Tryz.prog 148 #[z] d fun e w'=>e=.returned (.bool R)∧Q d w':=fun R hR h1 d q=>(Ox l z d R hR h1 hc (hz.on q)).mono fun _ _ ⟨a,b⟩=>⟨a,b.q⟩
 have LP:∀ d,Q w d→Calls Tryz.prog 149 #[z,.func (.func 150) #[v] #[]] d fun e w'=>e=.returned (.bool (l.any (lackB L)))∧Q d w':=fun d q=>Hs L v l z d hL hd hc (ht.on q) (hz.on q)
 have OCT:∀ d,Q w d→Calls Tryz.prog 152 #[v,z] d fun e w'=>e=.returned (.string (mk (catB L l)))∧Q d w':=fun d q=>PV L v l z d hL hd hc (ht.on q) (hz.on q)
 have TAG:∀ d,Q w d→Calls Tryz.prog 154 #[z] d fun e w'=>∃ v',e=.returned v'∧OwnN d.heap.size w' v' (l.map (·.tag))∧Q d w':=fun d q=>Oe l z d hc (hz.on q)
 have MANY:∀ v' d,1≤l.length→l.length≤30→OwnN w.heap.size d v' (l.map (·.tag))→Calls Tryz.prog 153 #[v'] d fun e w'=>e=.returned (.tuple #[.string (mk (DA (l.map (·.tag)))),.int .i64 0])∧Q d w':=fun v' d h1 h2 o=>Pb _ v' d (by rw [List.length_map];exact h1) (by rw [List.length_map];omega) (o.nums fun n hn=>by
  rw [List.mem_map] at hn
  obtain⟨x,hx,rfl⟩:=hn
  exact(hz.okAll x hx).2.2)
 have hmf:=@HMF
 obtain⟨A,c,rfl⟩:=ht.form
 obtain⟨A2,c2,rfl⟩:=hz.form
 have LO:∀ d,Q w d→Calls Tryz.prog 149 #[.slice A2 (l.length - 1) c2,.func (.func 151) #[.slice A L.length c] #[]] d fun e w'=>e=.returned (.bool ((l.take (l.length - 1)).any (lackO L)))∧Q d w':=fun d q=>Ht L _ _ _ d hL hd (by rw [List.length_take];omega) (ht.on q) ((hz.on q).cutTake (by omega))
 have hcap:l.length≤c2:=by
  obtain⟨A',c',e',e0,-⟩:=hz
  injection e' with e1 e2 e3
  omega
 obtain⟨N,hn⟩:∃ N,L.length=N:=⟨_,rfl⟩
 obtain⟨M,hm⟩:∃ M,l.length=M:=⟨_,rfl⟩
 have HM:=AC hm
 rw [hn] at MAY LP OCT LO
 rw [hm] at RISE LP OCT TAG LO MANY hcap hc
 simp only [upl] at MAY ⊢
 rw [hn]
 rw [hm]
 have q00:=(Q.refl w).alloc (.cells #[.int .u64 (id:Nat),.string key,.slice A N c] 107)
 have HB:Hid (∀ b,Q (w.alloc (.cells #[.int .u64 (id:Nat),.string key,.slice A N c] 107)) b→b.cell? ⟨w.heap.size,0,none⟩=some (.int .u64 (id:Nat))∧b.cell? ⟨w.heap.size,1,none⟩=some (.string key)∧b.cell? ⟨w.heap.size,2,none⟩=some (.slice A N c)):=AC fun b q=>Bf q
 have qb:=Q.refl (w.alloc (.cells #[.int .u64 (id:Nat),.string key,.slice A N c] 107))
 cases h with
 | arg h=>
   by_cases hu:DF ⟨id,key,L⟩
   ·have hM0:M=0:=by
     rcases Nat.eq_zero_or_pos M with e | e
     ·exact e
     ·exact absurd ⟨hu,by omega⟩ h
    subst hM0
    have C1:=AC (MAY true (.inl ⟨rfl,hu⟩))
    clear MAY RISE LP OCT TAG MANY LO ht hz hd hs HT HZ HH h hu
    go_enter Tryz.func115,Tryz.ntmps115
    obtain⟨b0,b1,b2⟩:=HB.out _ qb
    go_wp2_with fail
    refine(C1.out _ q00).mono ?_
    rintro e w1 ⟨rfl,q1⟩
    have r1:=qb.trans q1
    have p1:=q00.trans q1
    clear b0 b1 b2
    obtain⟨b0,b1,b2⟩:=HB.out _ r1
    go_wp2
    refine bodyPost_ret (v:=.tuple #[.string ⟨#[]⟩,.string ⟨#[]⟩,.int .i64 1]) (by simp [results,Tryz.results115,go_sem]) rfl ⟨rfl,p1⟩
   ·have C1:=AC (MAY false (.inr ⟨rfl,hu⟩))
    clear MAY RISE LP OCT TAG MANY LO ht hz hd hs HT HZ HH h hu
    go_enter Tryz.func115,Tryz.ntmps115
    obtain⟨b0,b1,b2⟩:=HB.out _ qb
    go_wp2_with fail
    refine(C1.out _ q00).mono ?_
    rintro e w1 ⟨rfl,q1⟩
    have r1:=qb.trans q1
    have p1:=q00.trans q1
    clear b0 b1 b2
    obtain⟨b0,b1,b2⟩:=HB.out _ r1
    go_wp2
    refine bodyPost_ret (v:=.tuple #[.string ⟨#[]⟩,.string ⟨#[]⟩,.int .i64 1]) (by simp [results,Tryz.results115,go_sem]) rfl ⟨rfl,p1⟩
 | order hu h1 hr=>
   have C1:=AC (MAY true (.inl ⟨rfl,hu⟩))
   have C2:=AC (RISE false (.inr ⟨rfl,hr⟩) (by omega))
   have hM1:¬ (M:Int)=0:=by omega
   clear MAY RISE LP OCT TAG MANY LO ht hz hd hs HT HZ HH hu hr
   go_enter Tryz.func115,Tryz.ntmps115
   obtain⟨b0,b1,b2⟩:=HB.out _ qb
   go_wp2_with fail
   refine(C1.out _ q00).mono ?_
   rintro e w1 ⟨rfl,q1⟩
   have r1:=qb.trans q1
   have p1:=q00.trans q1
   clear b0 b1 b2
   obtain⟨b0,b1,b2⟩:=HB.out _ r1
   go_wp2_with fail
   refine(C2.out _ p1).mono ?_
   rintro e w2 ⟨rfl,q2⟩
   have r2:=r1.trans q2
   have p2:=p1.trans q2
   clear b0 b1 b2
   obtain⟨b0,b1,b2⟩:=HB.out _ r2
   go_wp2
   refine bodyPost_ret (v:=.tuple #[.string ⟨#[]⟩,.string ⟨#[]⟩,.int .i64 9]) (by simp [results,Tryz.results115,go_sem]) rfl ⟨rfl,p2⟩
 | none hu h1 hr hk=>
   have C1:=AC (MAY true (.inl ⟨rfl,hu⟩))
   have C2:=AC (RISE true (.inl ⟨rfl,hr⟩) (by omega))
   simp only at hk
   rw [hk] at LP
   have C3:=AC LP
   have hM1:¬ (M:Int)=0:=by omega
   clear MAY RISE LP OCT TAG MANY LO ht hz hd hs HT HZ HH hu hr hk
   go_enter Tryz.func115,Tryz.ntmps115
   obtain⟨b0,b1,b2⟩:=HB.out _ qb
   go_wp2_with fail
   refine(C1.out _ q00).mono ?_
   rintro e w1 ⟨rfl,q1⟩
   have r1:=qb.trans q1
   have p1:=q00.trans q1
   clear b0 b1 b2
   obtain⟨b0,b1,b2⟩:=HB.out _ r1
   go_wp2_with fail
   refine(C2.out _ p1).mono ?_
   rintro e w2 ⟨rfl,q2⟩
   have r2:=r1.trans q2
   have p2:=p1.trans q2
   clear b0 b1 b2
   obtain⟨b0,b1,b2⟩:=HB.out _ r2
   go_wp2_with fail
   refine(C3.out _ p2).mono ?_
   rintro e w3 ⟨rfl,q3⟩
   have r3:=r2.trans q3
   have p3:=p2.trans q3
   clear b0 b1 b2
   obtain⟨b0,b1,b2⟩:=HB.out _ r3
   go_wp2
   refine bodyPost_ret (v:=.tuple #[.string ⟨#[]⟩,.string ⟨#[]⟩,.int .i64 4]) (by simp [results,Tryz.results115,go_sem]) rfl ⟨rfl,p3⟩
 | short hu h1 hr hk ho=>
   have C1:=AC (MAY true (.inl ⟨rfl,hu⟩))
   have C2:=AC (RISE true (.inl ⟨rfl,hr⟩) (by omega))
   simp only at hk ho
   rw [hm] at ho
   rw [hk] at LP
   rw [ho] at LO
   have C3:=AC LP
   have C4:=AC LO
   have hM1:¬ (M:Int)=0:=by omega
   have hM2:(M:Int) - 1=((M - 1:Nat):Int):=by omega
   clear MAY RISE LP OCT TAG MANY LO ht hz hd hs HT HZ HH hu hr hk ho
   go_enter Tryz.func115,Tryz.ntmps115
   obtain⟨b0,b1,b2⟩:=HB.out _ qb
   go_wp2_with fail
   refine(C1.out _ q00).mono ?_
   rintro e w1 ⟨rfl,q1⟩
   have r1:=qb.trans q1
   have p1:=q00.trans q1
   clear b0 b1 b2
   obtain⟨b0,b1,b2⟩:=HB.out _ r1
   go_wp2_with fail
   refine(C2.out _ p1).mono ?_
   rintro e w2 ⟨rfl,q2⟩
   have r2:=r1.trans q2
   have p2:=p1.trans q2
   clear b0 b1 b2
   obtain⟨b0,b1,b2⟩:=HB.out _ r2
   go_wp2_with fail
   refine(C3.out _ p2).mono ?_
   rintro e w3 ⟨rfl,q3⟩
   have r3:=r2.trans q3
   have p3:=p2.trans q3
   clear b0 b1 b2
   obtain⟨b0,b1,b2⟩:=HB.out _ r3
   go_wp2_with fail
   refine(C4.out _ p3).mono ?_
   rintro e w4 ⟨rfl,q4⟩
   have p4:=p3.trans q4
   go_wp2
   refine bodyPost_ret (v:=.tuple #[.string ⟨#[]⟩,.string ⟨#[]⟩,.int .i64 3]) (by simp [results,Tryz.results115,go_sem]) rfl ⟨rfl,p4⟩
 | large hu h1 hr hk ho hbig=>
   have C1:=AC (MAY true (.inl ⟨rfl,hu⟩))
   have C2:=AC (RISE true (.inl ⟨rfl,hr⟩) (by omega))
   simp only at hk ho hbig
   rw [hm] at ho
   rw [hk] at LP
   rw [ho] at LO
   have C3:=AC LP
   have C4:=AC LO
   have C5:=AC OCT
   have hM1:¬ (M:Int)=0:=by omega
   have hM2:(M:Int) - 1=((M - 1:Nat):Int):=by omega
   have hS:2000<(mk (catB L l)).size:=by rw [BW];exact hbig
   obtain⟨X,hX⟩:∃ X,X=mk (catB L l):=⟨_,rfl⟩
   rw [← hX] at hS C5
   have hS2:(2000:Int)<(X.size:Int):=by omega
   clear MAY RISE LP OCT TAG MANY LO ht hz hd hs HT HZ HH hu hr hk ho hbig hX
   go_enter Tryz.func115,Tryz.ntmps115
   obtain⟨b0,b1,b2⟩:=HB.out _ qb
   go_wp2_with fail
   refine(C1.out _ q00).mono ?_
   rintro e w1 ⟨rfl,q1⟩
   have r1:=qb.trans q1
   have p1:=q00.trans q1
   clear b0 b1 b2
   obtain⟨b0,b1,b2⟩:=HB.out _ r1
   go_wp2_with fail
   refine(C2.out _ p1).mono ?_
   rintro e w2 ⟨rfl,q2⟩
   have r2:=r1.trans q2
   have p2:=p1.trans q2
   clear b0 b1 b2
   obtain⟨b0,b1,b2⟩:=HB.out _ r2
   go_wp2_with fail
   refine(C3.out _ p2).mono ?_
   rintro e w3 ⟨rfl,q3⟩
   have r3:=r2.trans q3
   have p3:=p2.trans q3
   clear b0 b1 b2
   obtain⟨b0,b1,b2⟩:=HB.out _ r3
   go_wp2_with fail
   refine(C4.out _ p3).mono ?_
   rintro e w4 ⟨rfl,q4⟩
   have p4:=p3.trans q4
   go_wp2_with fail
   refine(C5.out _ p4).mono ?_
   rintro e w5 ⟨rfl,q5⟩
   have p5:=p4.trans q5
   go_wp2
   refine bodyPost_ret (v:=.tuple #[.string ⟨#[]⟩,.string ⟨#[]⟩,.int .i64 6]) (by simp [results,Tryz.results115,go_sem]) rfl ⟨rfl,p5⟩
 | yes hu h1 hr hk ho hbig=>
   have C1:=AC (MAY true (.inl ⟨rfl,hu⟩))
   have C2:=AC (RISE true (.inl ⟨rfl,hr⟩) (by omega))
   have h30:M≤30:=by rw [← HM.out];exact G5 hu hr hk
   simp only at hk ho hbig
   rw [hm] at ho
   rw [hk] at LP
   rw [ho] at LO
   have C3:=AC LP
   have C4:=AC LO
   have C5:=AC OCT
   have C6:=AC TAG
   have C7:=AC fun v' d o=>MANY v' d (by omega) h30 o
   have hM1:¬ (M:Int)=0:=by omega
   have hM2:(M:Int) - 1=((M - 1:Nat):Int):=by omega
   have hS:¬ 2000<(mk (catB L l)).size:=by rw [BW];exact hbig
   obtain⟨X,hX⟩:∃ X,X=mk (catB L l):=⟨_,rfl⟩
   simp only
   obtain⟨Y,hY⟩:∃ Y,Y=mk (DA (l.map (·.tag))):=⟨_,rfl⟩
   rw [← hX] at hS C5 ⊢
   rw [← hY] at C7 ⊢
   have hS2:¬ (2000:Int)<(X.size:Int):=by omega
   clear MAY RISE LP OCT TAG MANY LO ht hz hd hs HT HZ HH hu hr hk ho hbig hX hY
   go_enter Tryz.func115,Tryz.ntmps115
   obtain⟨b0,b1,b2⟩:=HB.out _ qb
   go_wp2_with fail
   refine(C1.out _ q00).mono ?_
   rintro e w1 ⟨rfl,q1⟩
   have r1:=qb.trans q1
   have p1:=q00.trans q1
   clear b0 b1 b2
   obtain⟨b0,b1,b2⟩:=HB.out _ r1
   go_wp2_with fail
   refine(C2.out _ p1).mono ?_
   rintro e w2 ⟨rfl,q2⟩
   have r2:=r1.trans q2
   have p2:=p1.trans q2
   clear b0 b1 b2
   obtain⟨b0,b1,b2⟩:=HB.out _ r2
   go_wp2_with fail
   refine(C3.out _ p2).mono ?_
   rintro e w3 ⟨rfl,q3⟩
   have r3:=r2.trans q3
   have p3:=p2.trans q3
   clear b0 b1 b2
   obtain⟨b0,b1,b2⟩:=HB.out _ r3
   go_wp2_with fail
   refine(C4.out _ p3).mono ?_
   rintro e w4 ⟨rfl,q4⟩
   have p4:=p3.trans q4
   go_wp2_with fail
   refine(C5.out _ p4).mono ?_
   rintro e w5 ⟨rfl,q5⟩
   have p5:=p4.trans q5
   go_wp2_with fail
   refine(C6.out _ p5).mono ?_
   rintro e w6 ⟨v6,rfl,o6,q6⟩
   have p6:=p5.trans q6
   have o7:OwnN w.heap.size w6 v6 (l.map (·.tag)):=OwnN.low o6 p5.size
   go_wp2_with fail
   refine(C7.out _ _ o7).mono ?_
   rintro e w7 ⟨rfl,q7⟩
   go_wp2
   refine bodyPost_ret (v:=.tuple #[.string X,.string Y,.int .i64 0]) (by simp [results,Tryz.results115,go_sem]) rfl ⟨rfl,p6.trans q7⟩
end
section
open Go.ChangeShapes Go.WideShapes Go.ChangeAt Go.RowKit
theorem Il{L:List Prt}: okL L↔(∀ x∈L,Cd x=true)∧L.Pairwise (fun x y=>x.n<y.n):=by
 constructor
 ·intro h
  refine⟨fun x hx=>?_,List.pairwise_iff_getElem.2 fun i j hi hj hij=>Es h i j hij hj⟩
  obtain⟨i,hi,rfl⟩:=List.getElem_of_mem hx
  exact(h i hi).1
 ·rintro⟨h1,h2⟩ i hi
  exact⟨h1 _ (List.getElem_mem hi),fun j hj=>List.pairwise_iff_getElem.1 h2 j i (by omega) hi (by omega)⟩
theorem As{l:List Upl}: Ab l↔l.length≤10∧(∀ x∈l,DF x)∧l.Pairwise (fun x y=>x.id<y.id):=by
 constructor
 ·intro h
  refine⟨h.1,fun x hx=>?_,List.pairwise_iff_getElem.2 fun i j hi hj hij=>Cw h i j hij hj⟩
  obtain⟨i,hi,rfl⟩:=List.getElem_of_mem hx
  exact(h.2 i hi).1
 ·rintro⟨h0,h1,h2⟩
  exact⟨h0,fun i hi=>⟨h1 _ (List.getElem_mem hi),fun j hj=>List.pairwise_iff_getElem.1 h2 j i (by omega) hi (by omega)⟩⟩
theorem PT{L:List Prt}{p:Prt}(h:okL L)(hp:Cd p=true):okL (Aj L p):=by
 obtain⟨h1,h2⟩:=Il.1 h
 refine Il.2 ⟨fun x hx=>?_,?_⟩
 ·rw [Aj,List.mem_append,List.mem_append] at hx
  rcases hx with(hx | hx) | hx
  ·exact h1 x (List.mem_filter.1 hx).1
  ·obtain rfl:x=p:=by simpa using hx
   exact hp
  ·exact h1 x (List.mem_filter.1 hx).1
 ·rw [Aj,List.pairwise_append,List.pairwise_append]
  refine⟨⟨h2.filter _,by simp,fun a ha b hb=>?_⟩,h2.filter _,fun a ha b hb=>?_⟩
  ·obtain rfl:b=p:=by simpa using hb
   simpa using(List.mem_filter.1 ha).2
  ·have hb2:p.n<b.n:=by simpa using(List.mem_filter.1 hb).2
   rw [List.mem_append] at ha
   rcases ha with ha | ha
   ·have:a.n<p.n:=by simpa using(List.mem_filter.1 ha).2
    omega
   ·obtain rfl:a=p:=by simpa using ha
    exact hb2
theorem Mb{l:List Upl}{i:Nat}{X:Upl}(h:Ab l)(hi:i<l.length)(hx:DF X)(he:X.id=l[i].id):Ab (l.set i X):=by
 obtain⟨h0,h1,h2⟩:=As.1 h
 refine As.2 ⟨by rw [List.length_set];exact h0,fun x hx'=>?_,?_⟩
 ·rcases List.mem_or_eq_of_mem_set hx' with k | k
  ·exact h1 x k
  ·rw [k];exact hx
 ·rw [List.pairwise_iff_getElem]
  intro a b ha hb hab
  rw [List.length_set] at ha hb
  have k:=List.pairwise_iff_getElem.1 h2 a b ha hb hab
  rw [List.getElem_set,List.getElem_set]
  by_cases e1:i=a
  ·by_cases e2:i=b
   ·omega
   ·rw [if_pos e1,if_neg e2,he];subst e1;exact k
  ·by_cases e2:i=b
   ·rw [if_neg e1,if_pos e2,he];subst e2;exact k
   ·rw [if_neg e1,if_neg e2];exact k
theorem Do{l:List Upl}{id:Nat}{p:Prt}{r:List Upl}{t:Nat}(h:LayC l id p r t 0):Ab r:=by
 cases h with
 | yes i hi h1 h2 h3 h4 h5=>
   have hu:=(As.1 h1).2.1 _ (List.getElem_mem hi)
   exact Mb h1 hi ⟨hu.1,by show(Aj l[i].L p).length≤30;omega,PT hu.2.2 h2⟩ rfl
theorem H7{l:List Upl}{id:Nat}{key:ByteArray}{r:List Upl}(h:BeginC l id key r 0):Ab r:=by
 cases h with
 | yes h1 h2 h3 h4=>
   obtain⟨k0,k1,k2⟩:=As.1 h1
   refine As.2 ⟨by rw [List.length_append,List.length_singleton];omega,fun x hx=>?_,?_⟩
   ·rw [List.mem_append] at hx
    rcases hx with hx | hx
    ·exact k1 x hx
    ·obtain rfl:x=_:=by simpa using hx
     exact⟨h2,by show(0:Nat)≤30;omega,fun i hi=>absurd hi (by simp)⟩
   ·rw [List.pairwise_append]
    refine⟨k2,by simp,fun a ha b hb=>?_⟩
    obtain rfl:b=_:=by simpa using hb
    exact h3 a ha
theorem Sy{l:List Upl}{id:Nat}(h:Ab l):Ab (rmU l id):=by
 obtain⟨k0,k1,k2⟩:=As.1 h
 exact As.2 ⟨Nat.le_trans (Di l id) k0,fun x hx=>k1 x (List.mem_filter.1 hx).1,k2.filter _⟩
theorem RZ{u:Upl}(h:DF u):smU u:=by
 obtain⟨h1,h2,h3⟩:=h
 rw [Cl,Bool.and_eq_true,BD,Bool.and_eq_true,Bool.and_eq_true] at h1
 have hk:u.key.size≤60:=by simpa using h1.2.1.2
 refine⟨by omega,by omega,fun x hx=>?_⟩
 have:=(EO.1 ((Il.1 h3).1 x hx)).2.2
 omega
theorem JM{l:List Upl}(h:Ab l):smL l:=⟨by have:=h.1;omega,fun x hx=>RZ ((As.1 h).2.1 x hx)⟩
def kK:ByteArray:=⟨#[107]⟩
theorem ok_k:Cl 1 kK=true:=by decide +kernel
def tH:ByteArray:=⟨#[104,101,108,108,111]⟩
def tW:ByteArray:=⟨#[119,111,114,108,100]⟩
def tF:ByteArray:=⟨#[102,111,117,114]⟩
theorem Ir{L:List Prt}{p:Prt}(h:Ab [⟨1,kK,L⟩])(hp:Cd p=true)(hl:(Aj L p).length≤30):LayC [⟨1,kK,L⟩] 1 p [⟨1,kK,Aj L p⟩] (crc (bl p.data)) 0:=
 .yes 0 (by simp) h hp rfl (fun j hj=>by omega) (by show ¬ 30<(Aj L p).length;omega)
def P2:List Prt:=[⟨2,tH⟩]
def P12:List Prt:=[⟨1,tW⟩,⟨2,tH⟩]
def Gw:List Prt:=[⟨1,tW⟩,⟨2,tH⟩,⟨3,tF⟩]
def P123':List Prt:=[⟨1,tF⟩,⟨2,tH⟩,⟨3,tF⟩]
theorem w2:Aj [] ⟨2,tH⟩=P2:=rfl
theorem w12:Aj P2 ⟨1,tW⟩=P12:=by simp [Aj,P2,P12]
theorem Ty:Aj P12 ⟨3,tF⟩=Gw:=by simp [Aj,P12,Gw]
theorem bg0:BeginC [] 1 kK [⟨1,kK,[]⟩] 0:=.yes ⟨by simp,fun i hi=>absurd hi (by simp)⟩ ok_k (by simp) (by simp)
theorem ly1:LayC [⟨1,kK,[]⟩] 1 ⟨2,tH⟩ [⟨1,kK,P2⟩] (crc (bl tH)) 0:=Ir (H7 bg0) (by decide +kernel) (by rw [w2];decide)
theorem ly2:LayC [⟨1,kK,P2⟩] 1 ⟨1,tW⟩ [⟨1,kK,P12⟩] (crc (bl tW)) 0:=by
 have:=Ir (Do ly1) (p:=⟨1,tW⟩) (by decide +kernel) (by rw [w12];decide)
 rw [w12] at this;exact this
theorem ly3:LayC [⟨1,kK,P12⟩] 1 ⟨3,tF⟩ [⟨1,kK,Gw⟩] (crc (bl tF)) 0:=by
 have:=Ir (Do ly2) (p:=⟨3,tF⟩) (by decide +kernel) (by rw [Ty];decide)
 rw [Ty] at this;exact this
theorem fd1:FindC [⟨1,kK,Gw⟩] 1 ⟨1,kK,Gw⟩ 0:=.yes 0 (by simp) (Do ly3) rfl (fun j hj=>by omega)
theorem okU1:DF ⟨1,kK,Gw⟩:=(As.1 (Do ly3)).2.1 _ (by simp)
theorem pc1:PartC Gw 1 ⟨1,tW⟩ true:=.yes 0 (by simp [Gw]) rfl (fun j hj=>by omega)
theorem pc2:PartC Gw 2 ⟨2,tH⟩ true:=.yes 1 (by simp [Gw]) rfl (fun j hj hl=>by
 obtain rfl:j=0:=by omega
 show(1:Int)≠2;decide)
theorem S1(a b:Nat):DN [⟨1,a⟩,⟨2,b⟩]:=fun i hi=>by
 obtain rfl:i=0:=by simp at hi;omega
 show(1:Int)<2;decide
def sWH:ByteArray:=⟨#[119,111,114,108,100,104,101,108,108,111]⟩
theorem TD{L:List Prt}{n:Int}{p:Prt}(h:PartC L n p true):lackB L ⟨n,crc (bl p.data)⟩=false:=by
 rw [Cm (x:=⟨n,crc (bl p.data)⟩) h];simp
theorem wh1:∃ t,WholeC ⟨1,kK,Gw⟩ [⟨1,crc (bl tW)⟩,⟨2,crc (bl tH)⟩] (bl sWH) t 0:=by
 have e:catB Gw [⟨1,crc (bl tW)⟩,⟨2,crc (bl tH)⟩]=bl sWH:=by
  simp only [catB,List.flatMap_cons,List.flatMap_nil,List.append_nil]
  rw [CW pc1,CW pc2];decide +kernel
 have h1:lackB Gw ⟨1,crc (bl tW)⟩=false:=TD pc1
 have h2:lackB Gw ⟨2,crc (bl tH)⟩=false:=TD pc2
 have h3:lackO Gw ⟨1,crc (bl tW)⟩=false:=by rw [GT (x:=⟨1,crc (bl tW)⟩) pc1];decide +kernel
 have:=WholeC.yes (u:=⟨1,kK,Gw⟩) (l:=[⟨1,crc (bl tW)⟩,⟨2,crc (bl tH)⟩]) okU1 (by simp) (S1 _ _) (by simp [h1,h2]) (by simp [h3]) (by show ¬ 2000<(catB Gw _).length;rw [e];decide +kernel)
 rw [show catB (Upl.L ⟨1,kK,Gw⟩) [⟨1,crc (bl tW)⟩,⟨2,crc (bl tH)⟩]=bl sWH from e] at this
 exact⟨_,this⟩
end
end Go.Proofs.YtjjlbbfhmpbneaaGreat
