/-
  Contract of the document's Whole.
-/
import Derived.Deep.DeepCutAuto
import Derived.Deep.RegionHeld3
import Derived.Test.YtjjlbbfhmpbneaaGreatLo
namespace Go.Proofs.YtjjlbbfhmpbneaaGreat
open AllReadyH renaming cons → aC, nil → aN
open Lib renaming hid → AC
set_option maxHeartbeats 16000000
set_option maxRecDepth 100000
set_option linter.unusedVariables false
set_option linter.unusedSimpArgs false
section
open Go.ChangeShapes Go.WideShapes Go.ChangeAt Go.RowKit
theorem J5{u:Upl}{l:List Pce}{s t s' t':List UInt8}{e e':Nat}(h:WholeC u l s t e)(h':WholeC u l s' t' e'):s=s'∧t=t'∧e=e':=by
 cases h <;> cases h' <;> first | exact⟨rfl,rfl,rfl⟩ | (exfalso;simp_all;done) | (exfalso;simp_all;omega)
def mt(x:Pce)(p:Prt):Bool:=decide (p.n=x.n)&&decide (crc (bl p.data)=x.tag)
theorem Fq{x:Pce}{p:Prt}: mt x p=true↔p.n=x.n∧crc (bl p.data)=x.tag:=by simp [mt]
def Ha(x:Pce)(L:List Prt):List UInt8:=(L.filter (mt x)).flatMap fun p=>bl p.data
def Lf(L:List Prt)(l:List Pce):List UInt8:=l.flatMap fun x=>Ha x L
theorem RH{x:Pce}{L:List Prt}{k:Nat}(h:k<L.length)(hm:mt x L[k]=true):Ha x (L.take (k+1))=Ha x (L.take k)++bl L[k].data:=by
 rw [Ha,Ha,List.take_succ_eq_append_getElem h,List.filter_append,List.filter_cons_of_pos hm,List.flatMap_append];simp
theorem Sw{x:Pce}{L:List Prt}{k:Nat}(h:k<L.length)(hm:mt x L[k]=false):Ha x (L.take (k+1))=Ha x (L.take k):=by
 rw [Ha,Ha,List.take_succ_eq_append_getElem h,List.filter_append,List.filter_cons_of_neg (by simp [hm]),List.flatMap_append];simp
theorem Jy{α:Type}{f:α→Bool}{L:List α}{k:Nat}(h:k<L.length):(L.take (k+1)).any f=((L.take k).any f||f L[k]):=by
 rw [List.take_succ_eq_append_getElem h,List.any_append];simp
theorem QP{L:List Prt}{l:List Pce}{i:Nat}(h:i<l.length):Lf L (l.take (i+1))=Lf L (l.take i)++Ha l[i] L:=by
 rw [Lf,Lf,List.take_succ_eq_append_getElem h,List.flatMap_append];simp
def shI(L:List Prt)(x:Pce)(k:Nat):Prop:=∃ q,∃ h:q<L.length,q<k∧mt x L[q]=true∧L[q].data.size<5
def shO(L:List Prt)(l:List Pce)(i:Nat):Prop:=∃ j,∃ h:j<l.length,j<i∧j+1<l.length∧shI L l[j] L.length
theorem Ok{L:List Prt}{x:Pce}{k:Nat}(h:k<L.length):shI L x (k+1)↔shI L x k∨(mt x L[k]=true∧L[k].data.size<5):=by
 constructor
 ·rintro⟨q,hq,h1,h2⟩
  by_cases e:q=k
  ·subst e;exact .inr h2
  ·exact .inl ⟨q,hq,by omega,h2⟩
 ·rintro(⟨q,hq,h1,h2⟩ | h2)
  ·exact⟨q,hq,by omega,h2⟩
  ·exact⟨k,h,by omega,h2⟩
theorem Tn{L:List Prt}{x:Pce}: ¬ shI L x 0:=by rintro⟨q,hq,h1,-⟩;omega
theorem Tm{L:List Prt}{l:List Pce}: ¬ shO L l 0:=by rintro⟨q,hq,h1,-⟩;omega
theorem Oj{L:List Prt}{l:List Pce}{i:Nat}(h:i<l.length):shO L l (i+1)↔shO L l i∨(i+1<l.length∧shI L l[i] L.length):=by
 constructor
 ·rintro⟨q,hq,h1,h2⟩
  by_cases e:q=i
  ·subst e;exact .inr h2
  ·exact .inl ⟨q,hq,by omega,h2⟩
 ·rintro(⟨q,hq,h1,h2⟩ | h2)
  ·exact⟨q,hq,by omega,h2⟩
  ·exact⟨i,h,by omega,h2⟩
theorem Ig{L:List Prt}{x:Pce}(ho:okL L){i:Nat}(hi:i<L.length)(e:L[i].n=x.n):PartC L x.n L[i] true:=
 .yes i hi e fun j hj hl e'=>by have:=Es ho j i hj hi;omega
theorem JY{L:List Prt}{x:Pce}(ho:okL L):lackB L x = !L.any (mt x):=by
 cases h:L.any (mt x) with
 | true=>
   obtain⟨p,hp,hm⟩:=List.any_eq_true.1 h
   obtain⟨i,hi,rfl⟩:=List.getElem_of_mem hp
   obtain⟨e1,e2⟩:=Fq.1 hm
   rw [Cm (Ig ho hi e1),e2];simp
 | false=>
   obtain⟨p,b,hp⟩:=B7 L x.n
   cases b with
   | false=>rw [GU hp];rfl
   | true=>
     rw [Cm hp]
     cases hp with
     | yes i hi e k=>
       have:=(List.any_eq_false.1 h) _ (List.getElem_mem hi)
       rw [Fq] at this
       simp only [Bool.not_false,decide_eq_true_eq]
       exact fun e2=>this ⟨e,e2⟩
theorem Ly{L:List Prt}{x:Pce}(ho:okL L)(h:lackB L x=false):∃ i,∃ hi:i<L.length,mt x L[i]=true∧partD L x.n=L[i].data∧Ha x L=bl L[i].data:=by
 rw [JY ho] at h
 have h:L.any (mt x)=true:=by simpa using h
 obtain⟨p,hp,hm⟩:=List.any_eq_true.1 h
 obtain⟨i,hi,rfl⟩:=List.getElem_of_mem hp
 obtain⟨e1,e2⟩:=Fq.1 hm
 refine⟨i,hi,hm,CW (Ig ho hi e1),?_⟩
 have hs:L=L.take i++L[i] :: L.drop (i+1):=by rw [← List.drop_eq_getElem_cons hi,List.take_append_drop]
 have f1:(L.take i).filter (mt x)=[]:=List.filter_eq_nil_iff.2 fun p hp hm2=>by
  obtain⟨j,hj,rfl⟩:=List.getElem_of_mem hp
  rw [List.length_take] at hj
  rw [List.getElem_take] at hm2
  have:=Es ho j i (by omega) hi
  have:=(Fq.1 hm2).1;omega
 have f2:(L.drop (i+1)).filter (mt x)=[]:=List.filter_eq_nil_iff.2 fun p hp hm2=>by
  obtain⟨j,hj,rfl⟩:=List.getElem_of_mem hp
  rw [List.length_drop] at hj
  rw [List.getElem_drop] at hm2
  have:=Es ho i (i+1+j) (by omega) (by omega)
  have:=(Fq.1 hm2).1;omega
 have hF:L.filter (mt x)=[L[i]]:=by
  have e:L.filter (mt x)=(L.take i++L[i] :: L.drop (i+1)).filter (mt x):=congrArg (List.filter (mt x)) hs
  rw [e,List.filter_append,f1,List.filter_cons_of_pos hm,f2];rfl
 rw [Ha,hF];simp
theorem Hu{f g:Pce→List UInt8}: ∀ l:List Pce,(∀ x∈l,f x=g x)→l.flatMap f=l.flatMap g
 | [],_=>rfl
 | a :: r,h=>by rw [List.flatMap_cons,List.flatMap_cons,h a (by simp),Hu r (fun x hx=>h x (by simp [hx]))]
theorem OwnN.on{base:Nat}{w w':World}{v:Value}{l:List Nat}(h:OwnN base w v l)(q:Q w w'):OwnN base w' v l:=by
 rcases h.2 with⟨rfl,h0⟩ | ⟨g,cap,cur,rfl,hb,hg,h1,h2,h3,h4⟩
 ·exact⟨h.1,.inl ⟨rfl,h0⟩⟩
 ·exact⟨h.1,.inr ⟨g,cap,cur,rfl,hb,(q.block g (lt_of_block hg)).trans hg,h1,h2,h3,h4⟩⟩
theorem Sf(X:ByteArray):X++mk []=X:=FL (by rw [CR,FK,List.append_nil])
theorem GD{a b c s s':Prop}{sk sk':Bool}(h:sk=true↔a∨(b∧s))(h2:s'↔s∨c)(h3:sk'=true↔sk=true∨(b∧c)):sk'=true↔a∨(b∧s'):=by
 rw [h3,h,h2]
 constructor
 ·rintro((g | ⟨g1,g2⟩) | ⟨g1,g2⟩)
  ·exact .inl g
  ·exact .inr ⟨g1,.inl g2⟩
  ·exact .inr ⟨g1,.inr g2⟩
 ·rintro(g | ⟨g1,g2 | g2⟩)
  ·exact .inl (.inl g)
  ·exact .inl (.inr ⟨g1,g2⟩)
  ·exact .inr ⟨g1,g2⟩
theorem Lo{u:Upl}{l:List Pce}{sh nn:Bool}(hu:DF u)(h1:1≤l.length)(hr:DN l)(hn:nn=l.any (fun x=>!u.L.any (mt x)))(hs:sh=true↔shO u.L l l.length):
  if nn=true then WholeC u l [] [] 4 else if sh=true then WholeC u l [] [] 3 else if 2000<(Lf u.L l).length then WholeC u l [] [] 6 else WholeC u l (Lf u.L l) (DA (l.map (·.tag))) 0:=by
 have hL:=hu.2.2
 have hn:nn=l.any (lackB u.L):=by rw [hn];congr 1;funext x;rw [JY hL]
 cases nn with
 | true=>rw [if_pos rfl];exact .none hu h1 hr hn.symm
 | false=>
   rw [if_neg (by simp)]
   have hall:∀ x∈l,lackB u.L x=false:=fun x hx=>by
    have:=(List.any_eq_false.1 hn.symm) x hx
    simpa using this
   have hD:Lf u.L l=catB u.L l:=by
    rw [Lf,catB]
    have:∀ x∈l,Ha x u.L=bl (partD u.L x.n):=fun x hx=>by
     obtain⟨i,hi,-,e1,e2⟩:=Ly hL (hall x hx)
     rw [e2,e1]
    exact Hu l this
   have hS:sh=(l.take (l.length - 1)).any (lackO u.L):=by
    rw [Bool.eq_iff_iff,hs,List.any_eq_true]
    constructor
    ·rintro⟨j,hj,-,h2,q,hq,-,hm,h5⟩
     refine⟨l[j],?_,?_⟩
     ·have:(l.take (l.length - 1))[j]'(by rw [List.length_take];omega)=l[j]:=List.getElem_take
      rw [← this];exact List.getElem_mem _
     ·rw [GT (Ig hL hq (Fq.1 hm).1)];simpa using h5
    ·rintro⟨x,hx,ho⟩
     obtain⟨j,hj,rfl⟩:=List.getElem_of_mem hx
     rw [List.length_take] at hj
     rw [List.getElem_take] at ho
     have hjl:j<l.length:=by omega
     obtain⟨i,hi,hm,e1,-⟩:=Ly hL (hall l[j] (List.getElem_mem hjl))
     refine⟨j,hjl,hjl,by omega,i,hi,hi,hm,?_⟩
     rw [lackO,e1] at ho;simpa using ho
   rw [hD]
   cases sh with
   | true=>rw [if_pos rfl];exact .short hu h1 hr hn.symm hS.symm
   | false=>
     rw [if_neg (by simp)]
     by_cases h2:2000<(catB u.L l).length
     ·rw [if_pos h2];exact .large hu h1 hr hn.symm hS.symm h2
     ·rw [if_neg h2];exact .yes hu h1 hr hn.symm hS.symm h2
theorem J4{u:Upl}{l:List Pce}{s t:List UInt8}(h:WholeC u l s t 0):l.length≤30:=by
 cases h with
 | yes hu hn hr hk ho hs=>exact G5 hu hr hk
theorem KC(u:Upl)(v:Value)(l:List Pce)(z:Value)(w:World)(s t:List UInt8)(e:Nat)(h:WholeC u l s t e)(hs:smU u)(hc:l.length≤1000)(ht:Prts w w.heap.size v u.L)(hz:Pces w w.heap.size z l):
  Calls Tryz.prog 90 #[upl u v,z] w fun r w'=>r=.returned (.tuple #[.string (mk s),.string (mk t),.int .i64 (e:Nat)])∧Q w w':=by
 obtain⟨i0,hi,hz0,hz1,hz2⟩:=info_parts Jb
 have HW:Hid (∀ s' t' e',WholeC u l s' t' e'→(Ending.returned (.tuple #[.string (mk s'),.string (mk t'),.int .i64 (e':Nat)]):Ending)=.returned (.tuple #[.string (mk s),.string (mk t),.int .i64 (e:Nat)])):=AC fun s' t' e' h'=>by obtain⟨rfl,rfl,rfl⟩:=J5 h h';rfl
 obtain⟨R,hR⟩:=Bw (DF u)
 have ONE:=fun d (t:Prts d d.heap.size v u.L)=>He u v d R hR hs t
 have HR:=AC hR
 have hsz:=hs.2.2
 have hLl:=hs.2.1
 obtain⟨A,c,rfl⟩:=ht.form
 obtain⟨A2,c2,rfl⟩:=hz.form
 obtain⟨id,key,L⟩:=u
 simp only at ht hsz hLl ONE ⊢
 obtain⟨n,hn⟩:∃ n,L.length=n:=⟨_,rfl⟩
 obtain⟨M,hm⟩:∃ M,l.length=M:=⟨_,rfl⟩
 rw [hn] at ht hLl ONE ⊢
 rw [hm] at hz hc ⊢
 have HN:=AC hn
 have HM:=AC hm
 have HT:=AC ht
 have HZ:=AC hz
 have HSZ:=AC hsz
 simp only [upl] at ONE ⊢
 have q00:=(Q.refl w).alloc (.cells #[.int .u64 (id:Nat),.string key,.slice A n c] 107)
 have ON1:=AC (ONE _ (ht.on q00))
 clear ONE h hR hs hsz hn hm ht hz
 go_enter Tryz.func90,Tryz.ntmps90
 go_wp2_with fail
 refine(ON1.out).mono ?_
 rintro e w1 ⟨rfl,q1⟩
 clear ON1
 have BX:Hid (∀ b,Q w1 b→b.cell? ⟨w.heap.size,2,none⟩=some (.slice A n c)):=AC fun b qb=>(Bf (q1.trans qb)).2.2
 have QW:=AC (q00.trans q1)
 clear q00 q1
 cases R with
 | false=>
   have HV:=AC (HW.out _ _ _ (.arg fun k=>by have:=HR.out.yes k.1;simp at this))
   go_wp2
   refine bodyPost_ret (v:=.tuple #[.string ⟨#[]⟩,.string ⟨#[]⟩,.int .i64 1]) (by simp [results,Tryz.results90,go_sem]) rfl ⟨(Eq.trans (by rfl) HV.out),QW.out⟩
 | true=>
 by_cases hM0:M=0
 ·have HV:=AC (HW.out _ _ _ (.arg fun k=>by have:=HM.out;have:=k.2;omega))
  have hM0':((M:Int)==0)=true:=by simp [hM0]
  clear hM0
  go_wp2
  refine bodyPost_ret (v:=.tuple #[.string ⟨#[]⟩,.string ⟨#[]⟩,.int .i64 1]) (by simp [results,Tryz.results90,go_sem]) rfl ⟨(Eq.trans (by rfl) HV.out),QW.out⟩
 have hM0':((M:Int)==0)=false:=by simp [hM0]
 have OKU:Hid (DF ⟨id,key,L⟩):=AC (by rcases HR.out with⟨-,k⟩ | ⟨k,-⟩;exact k;simp at k)
 have hn30:n≤30:=by have:=OKU.out.2.1;have:=HN.out;simp only at *;omega
 have hM1:1≤M:=by omega
 clear HR hM0 hLl
 go_wp2_with fail
 go_loopw [7] (fun I wr=>∃ i:Nat,1≤i∧i≤M∧I=.int .i64 i∧D w1 wr∧Hid (∀ j (hj:j+1<i) (h:j+1<l.length),(l[j]'(by omega)).n<l[j+1].n)) (fun I _=>M - (intOf I).toNat)
 case atStart=>exact⟨1,by omega,by omega,rfl,D.refl _,AC (fun j h=>by omega)⟩
 case round=>
  obtain⟨i,hi1,hil,rfl,d,HK⟩:=hrel
  obtain⟨m,rfl⟩:=d
  by_cases hlt:i<M
  ·obtain⟨j,hj⟩:∃ j,i=j+1:=⟨i - 1,by omega⟩
   have hltL:j+1<l.length:=by have:=HM.out;omega
   obtain⟨a,c',hv,ha,-,hat⟩:=HZ.out.pick j (by omega)
   obtain⟨a',c'',hv',ha',-,hat'⟩:=HZ.out.pick (j+1) hltL
   injection hv with e1 e2 e3
   subst e1 e3
   injection hv' with f1 f2 f3
   injection f1 with f1
   subst f1
   obtain⟨c0,-⟩:=hat w1 QW.out
   obtain⟨d0,-⟩:=hat' w1 QW.out
   have YES:(l[j]'(by omega)).n<l[j+1].n→∀ k (hj:k+1<i+1) (h:k+1<l.length),(l[k]'(by omega)).n<l[k+1].n:=fun kk k hk h=>by
    by_cases e:k=j
    ·subst e;exact kk
    ·exact HK.out k (by omega) h
   have NO:¬ (l[j]'(by omega)).n<l[j+1].n→WholeC ⟨id,key,L⟩ l [] [] 9:=fun k=>.order OKU.out (by omega) fun h=>k (h j hltL)
   obtain⟨y,hy⟩:∃ y,y=(l[j]'(by omega)).n:=⟨_,rfl⟩
   obtain⟨x,hx⟩:∃ x,x=l[j+1].n:=⟨_,rfl⟩
   rw [← hy] at c0 YES NO
   rw [← hx] at d0 YES NO
   rw [← hj] at d0
   clear hat hat' hx hy e2 f2 f3
   have hjj:(i:Int) - 1=(j:Int):=by omega
   have hjM:(j:Int)<(M:Int):=by omega
   have hiM:(i:Int)<(M:Int):=by omega
   by_cases hxy:y<x
   ·have HK2:=AC (YES hxy)
    have hge:¬ x≤y:=by omega
    clear YES NO hj
    go_wp2_with fail
    go_region
    go_wp2
    go_roundw
    case rel=>exact⟨i+1,by omega,by omega,by go_num,⟨m+1,by simp [Nat.add_comm]⟩,HK2⟩
    case measure=>simp [intOf];omega
   ·have HV:=AC (HW.out _ _ _ (NO hxy))
    have hge:x≤y:=by omega
    clear YES NO hj
    go_wp2_with fail
    go_region
    go_wp2
    refine bodyPost_ret (v:=.tuple #[.string ⟨#[]⟩,.string ⟨#[]⟩,.int .i64 9]) (by simp [results,Tryz.results90,go_sem]) rfl ⟨(Eq.trans (by rfl) HV.out),QW.out.trans (D.drewN ⟨m,rfl⟩ 1).q⟩
  ·have RI:Hid (DN l):=AC fun j h=>HK.out j (by have:=HM.out;omega) h
   have hiM:¬ (i:Int)<(M:Int):=by omega
   have qm:Q w1 (w1.drewN m):=(Q.refl w1).drewN m
   obtain⟨w2,hw2⟩:∃ w2,w2=w1.drewN m:=⟨_,rfl⟩
   rw [← hw2] at qm ⊢
   clear hw2 HK hil hi1 hlt
   go_wp2_with fail
   go_loopw [8,9,10,11,12,13,14,15] (fun DV SV NV TV I _ _ _ wr=>∃ (i:Nat) (X:ByteArray) (sh nn:Bool) (A5:Option Addr) (n5 c5:Nat) (T:List Nat),i≤M∧DV=.string X∧SV=.bool sh∧NV=.bool nn∧TV=.slice A5 n5 c5∧I=.int .i64 i∧X.size≤150000*i∧T.length=i∧OwnN w1.heap.size wr (.slice A5 n5 c5) T∧Q w1 wr∧Hid (T=(l.take i).map (·.tag))∧Hid (X=mk (Lf L (l.take i)))∧Hid (nn=(l.take i).any (fun x=>!L.any (mt x)))∧Hid (sh=true↔shO L l i)) (fun _ _ _ _ I _ _ _ _=>M - (intOf I).toNat)
   case atStart=>exact⟨0,⟨#[]⟩,false,false,none,0,0,[],Nat.zero_le _,rfl,rfl,rfl,rfl,rfl,(by decide),rfl,World.ownsRow_nil _ _ _ _,qm,AC (by simp),AC rfl,AC (by simp),AC (by simp [Tm])⟩
   case round=>
    clear qm hiM
    obtain⟨i,X,sh,nn,A5,n5,c5,T,hil,rfl,rfl,rfl,rfl,rfl,hX,hTl,own,q,HTg,HX,HNN,HSH⟩:=hrel
    obtain⟨wo,hwo⟩:∃ x,x=wr:=⟨_,rfl⟩
    subst hwo
    by_cases hlt:i<M
    ·have hiM:(i:Int)<(M:Int):=by omega
     have hltL:i<l.length:=by have:=HM.out;omega
     obtain⟨a2,c',hv,ha,hokc,hat2⟩:=HZ.out.pick i hltL
     injection hv with e1 e2 e3
     subst e1 e3
     have HAC:Hid (∀ d,Q w1 d→d.cell? (a2.add (i*2))=some (.int .i64 l[i].n)∧d.cell? ⟨(a2.add (i*2)).block,(a2.add (i*2)).off+1,none⟩=some (.int .u32 (l[i].tag:Nat))):=AC fun d qd=>hat2 d (QW.out.trans qd)
     obtain⟨x,hx⟩:∃ x,x=l[i]:=⟨_,rfl⟩
     rw [← hx] at HAC hokc
     have HXI:Hid (∀ h:i<l.length,x=l[i]):=AC fun _=>hx
     clear hat2 e2 hx
     obtain⟨xn,xt⟩:=x
     simp only at HAC
     have hxt:xt<4294967296:=hokc.2.2
     clear hokc
     go_wp2_with fail
     go_loopw [8,9,13,14,15] (fun DV SV FV KV _ wy=>∃ (k:Nat) (Y:ByteArray) (sk f:Bool),k≤n∧DV=.string Y∧SV=.bool sk∧FV=.bool f∧KV=.int .i64 k∧Y.size≤150000*i+5000*k∧Q wo wy∧Hid (Y=X++mk (Ha ⟨xn,xt⟩ (L.take k)))∧Hid (f=(L.take k).any (mt ⟨xn,xt⟩))∧Hid (sk=true↔sh=true∨(i+1<M∧shI L ⟨xn,xt⟩ k))) (fun _ _ _ KV _ _=>n - (intOf KV).toNat)
     case atStart=>exact⟨0,X,sh,false,Nat.zero_le _,rfl,rfl,rfl,rfl,by omega,Q.refl _,AC (by rw [List.take_zero];exact(Sf X).symm),AC (by simp),AC (by simp [Tn])⟩
     case round=>
      obtain⟨k,Y,sk,f,hkn,rfl,rfl,rfl,rfl,hY,qk,HY,HF,HSK⟩:=hrel
      obtain⟨wy,hwy⟩:∃ x,x=wr:=⟨_,rfl⟩
      subst hwy
      have x2:=BX.out _ (q.trans qk)
      by_cases hkl:k<n
      ·have hkN:(k:Int)<(n:Int):=by omega
       have hkL:k<L.length:=by have:=HN.out;omega
       obtain⟨a,c3,hv3,hb,hokp,hbt⟩:=HT.out.pick k hkL
       injection hv3 with f1 f2 f3
       subst f1 f3
       have HAP:Hid (∀ d,Q w1 d→d.cell? (a.add (k*2))=some (.int .i64 L[k].n)∧d.cell? ⟨(a.add (k*2)).block,(a.add (k*2)).off+1,none⟩=some (.string L[k].data)):=AC fun d qd=>hbt d (QW.out.trans qd)
       have hps:=HSZ.out _ (List.getElem_mem hkL)
       have SY:=fun h=>RH (x:=⟨xn,xt⟩) hkL h
       have SN:=fun h=>Sw (x:=⟨xn,xt⟩) hkL h
       have AN:=Jy (f:=mt ⟨xn,xt⟩) hkL
       have SI:=Ok (x:=⟨xn,xt⟩) hkL
       obtain⟨p,hp⟩:∃ p,p=L[k]:=⟨_,rfl⟩
       rw [← hp] at HAP hps SY SN AN SI
       clear hbt f2 hp hokp
       obtain⟨yn,yd⟩:=p
       simp only at HAP hps SY SN AN SI
       obtain⟨p0,p1⟩:=HAP.out _ (q.trans qk)
       have qP:=(q.trans qk).alloc (.cells #[.int .i64 yn,.string yd] 64)
       have qPk:=qk.alloc (.cells #[.int .i64 yn,.string yd] 64)
       have HB:Hid (∀ b,Q (wy.alloc (.cells #[.int .i64 yn,.string yd] 64)) b→(fun W=>W.cell? ⟨wy.heap.size,0,none⟩=some (.int .i64 yn)∧W.cell? ⟨wy.heap.size,1,none⟩=some (.string yd)∧W.cell? (a2.add (i*2))=some (.int .i64 xn)∧W.cell? ⟨(a2.add (i*2)).block,(a2.add (i*2)).off+1,none⟩=some (.int .u32 (xt:Nat))∧Q wo W) b):=AC fun b qb=>⟨(Ak qb).1,(Ak qb).2,(HAC.out b (qP.trans qb)).1,(HAC.out b (qP.trans qb)).2,qPk.trans qb⟩
       have OF:=AC fun d=>IW yd d hps
       obtain⟨cv,hcv⟩:∃ c,c=crc (bl yd):=⟨_,rfl⟩
       rw [← hcv] at OF
       have hmt:mt ⟨xn,xt⟩ ⟨yn,yd⟩=(decide (yn=xn)&&decide (cv=xt)):=by rw [hcv];rfl
       have M1:Hid (∀ d,(fun W=>W.cell? ⟨wy.heap.size,0,none⟩=some (.int .i64 yn)∧W.cell? ⟨wy.heap.size,1,none⟩=some (.string yd)∧W.cell? (a2.add (i*2))=some (.int .i64 xn)∧W.cell? ⟨(a2.add (i*2)).block,(a2.add (i*2)).off+1,none⟩=some (.int .u32 (xt:Nat))∧Q wo W) d→Calls Tryz.prog 25 #[.string yd] d fun e w'=>e=.returned (.int .u32 (cv:Nat))∧(fun W=>W.cell? ⟨wy.heap.size,0,none⟩=some (.int .i64 yn)∧W.cell? ⟨wy.heap.size,1,none⟩=some (.string yd)∧W.cell? (a2.add (i*2))=some (.int .i64 xn)∧W.cell? ⟨(a2.add (i*2)).block,(a2.add (i*2)).off+1,none⟩=some (.int .u32 (xt:Nat))∧Q wo W) w'):=AC fun d hd=>(OF.out d).mono fun _ _ ⟨h1,h2⟩=>⟨h1,by rw [← h2];exact hd⟩
       have SB:=HB.out _ (Q.refl _).drew
       clear OF hcv
       rw [hmt] at SY SN AN SI
       clear hmt
       go_upto_region 19 with fail
       by_cases hyx:yn=xn
       ·subst hyx
        by_cases hct:cv=xt
        ·subst hct
         simp only [decide_true,Bool.and_true,Bool.or_true,true_and] at SY AN SI
         have HY2:Hid (Y++yd=X++mk (Ha ⟨yn,cv⟩ (L.take (k+1)))):=AC (by rw [HY.out,SY trivial];exact FL (by simp [CR,FK,List.append_assoc]))
         have HF2:Hid (true=(L.take (k+1)).any (mt ⟨yn,cv⟩)):=AC AN.symm
         have HSI:=AC SI
         clear SY SN AN SI
         cases sk with
         | true=>
           have HS2:Hid (true=true↔sh=true∨(i+1<M∧shI L ⟨yn,cv⟩ (k+1))):=AC (by exact GD HSK.out HSI.out (by simp))
           clear HSK HSI HY HF
           refine wp_region_held_drew (S:=(fun W=>W.cell? ⟨wy.heap.size,0,none⟩=some (.int .i64 yn)∧W.cell? ⟨wy.heap.size,1,none⟩=some (.string yd)∧W.cell? (a2.add (i*2))=some (.int .i64 yn)∧W.cell? ⟨(a2.add (i*2)).block,(a2.add (i*2)).off+1,none⟩=some (.int .u32 (cv:Nat))∧Q wo W)) (by kernel_rfl) (SB) (fun hHeld=>?_)
           refine tkV 0 ?_
           refine tkV 1 ?_
           refine tkV 2 ?_
           refine tkV 3 ?_
           refine tkV 4 ?_
           refine tkV 5 ?_
           refine tkV 6 ?_
           refine tkB 7 (.bool true) ?_
           refine tkB 8 (.bool true) ?_
           refine tkV 9 ?_
           refine tkV 10 ?_
           refine tkV 12 ?_
           refine tkV 13 ?_
           refine tkV 14 ?_
           refine tkV 15 ?_
           refine tkV 16 ?_
           refine aR [11] ?_
           refine aC rfl (fun K hK=>?_) aN
           go_simp
           go_at_call 25
           refine(M1.out _ (by assumption)).mono ?_
           rintro e w' ⟨rfl,hS⟩
           refine hK.out _ _ hS (fun hHeld=>?_)
           clear hK K
           refine pg ?_
           refine tkB 17 (.bool true) ?_
           refine tkV 18 ?_
           refine wpAnyH_done (by kernel_rfl) ?_ _
           obtain⟨g0,g1,-,-,q9⟩:=(show(fun W=>W.cell? ⟨wy.heap.size,0,none⟩=some (.int .i64 yn)∧W.cell? ⟨wy.heap.size,1,none⟩=some (.string yd)∧W.cell? (a2.add (i*2))=some (.int .i64 yn)∧W.cell? ⟨(a2.add (i*2)).block,(a2.add (i*2)).off+1,none⟩=some (.int .u32 (cv:Nat))∧Q wo W) _ by assumption)
           have hcat:Y.size+yd.size≤200000000:=by omega
           go_wp2_with fail
           go_roundw
           case rel=>exact⟨k+1,_,_,_,by omega,rfl,rfl,rfl,by go_num,by rw [ByteArray.size_append];omega,q9,HY2,HF2,HS2⟩
           case measure=>simp [intOf];omega
         | false=>
           by_cases hi1:i+1<M
           ·have hi1':(i:Int)<(M:Int) - 1:=by omega
            by_cases h5:yd.size<5
            ·have h5':(yd.size:Int)<5:=by omega
             have HS2:Hid (true=true↔sh=true∨(i+1<M∧shI L ⟨yn,cv⟩ (k+1))):=AC (by exact GD HSK.out HSI.out (by simp [hi1,h5]))
             clear HSK HSI HY HF
             refine wp_region_held_drew (S:=(fun W=>W.cell? ⟨wy.heap.size,0,none⟩=some (.int .i64 yn)∧W.cell? ⟨wy.heap.size,1,none⟩=some (.string yd)∧W.cell? (a2.add (i*2))=some (.int .i64 yn)∧W.cell? ⟨(a2.add (i*2)).block,(a2.add (i*2)).off+1,none⟩=some (.int .u32 (cv:Nat))∧Q wo W)) (by kernel_rfl) (SB) (fun hHeld=>?_)
             refine tkV 0 ?_
             refine tkV 1 ?_
             refine tkV 2 ?_
             refine tkV 3 ?_
             refine tkV 4 ?_
             refine tkV 5 ?_
             refine tkV 6 ?_
             refine tkB 7 (.bool true) ?_
             refine tkB 8 (.bool true) ?_
             refine tkV 9 ?_
             refine tkV 10 ?_
             refine tkV 12 ?_
             refine tkV 13 ?_
             refine tkV 14 ?_
             refine tkV 15 ?_
             refine tkV 16 ?_
             refine aR [11] ?_
             refine aC rfl (fun K hK=>?_) aN
             go_simp
             go_at_call 25
             refine(M1.out _ (by assumption)).mono ?_
             rintro e w' ⟨rfl,hS⟩
             refine hK.out _ _ hS (fun hHeld=>?_)
             clear hK K
             refine pg ?_
             refine tkB 17 (.bool true) ?_
             refine tkV 18 ?_
             refine wpAnyH_done (by kernel_rfl) ?_ _
             obtain⟨g0,g1,-,-,q9⟩:=(show(fun W=>W.cell? ⟨wy.heap.size,0,none⟩=some (.int .i64 yn)∧W.cell? ⟨wy.heap.size,1,none⟩=some (.string yd)∧W.cell? (a2.add (i*2))=some (.int .i64 yn)∧W.cell? ⟨(a2.add (i*2)).block,(a2.add (i*2)).off+1,none⟩=some (.int .u32 (cv:Nat))∧Q wo W) _ by assumption)
             have hcat:Y.size+yd.size≤200000000:=by omega
             go_wp2_with fail
             go_roundw
             case rel=>exact⟨k+1,_,_,_,by omega,rfl,rfl,rfl,by go_num,by rw [ByteArray.size_append];omega,q9,HY2,HF2,HS2⟩
             case measure=>simp [intOf];omega
            ·have h5':¬ (yd.size:Int)<5:=by omega
             have HS2:Hid (false=true↔sh=true∨(i+1<M∧shI L ⟨yn,cv⟩ (k+1))):=AC (by exact GD HSK.out HSI.out (by simp [h5]))
             clear HSK HSI HY HF
             refine wp_region_held_drew (S:=(fun W=>W.cell? ⟨wy.heap.size,0,none⟩=some (.int .i64 yn)∧W.cell? ⟨wy.heap.size,1,none⟩=some (.string yd)∧W.cell? (a2.add (i*2))=some (.int .i64 yn)∧W.cell? ⟨(a2.add (i*2)).block,(a2.add (i*2)).off+1,none⟩=some (.int .u32 (cv:Nat))∧Q wo W)) (by kernel_rfl) (SB) (fun hHeld=>?_)
             refine tkV 0 ?_
             refine tkV 1 ?_
             refine tkV 2 ?_
             refine tkV 3 ?_
             refine tkV 4 ?_
             refine tkV 5 ?_
             refine tkV 6 ?_
             refine tkB 7 (.bool true) ?_
             refine tkB 8 (.bool true) ?_
             refine tkV 9 ?_
             refine tkV 10 ?_
             refine tkV 12 ?_
             refine tkV 13 ?_
             refine tkV 14 ?_
             refine tkV 15 ?_
             refine tkV 16 ?_
             refine aR [11] ?_
             refine aC rfl (fun K hK=>?_) aN
             go_simp
             go_at_call 25
             refine(M1.out _ (by assumption)).mono ?_
             rintro e w' ⟨rfl,hS⟩
             refine hK.out _ _ hS (fun hHeld=>?_)
             clear hK K
             refine pg ?_
             refine tkB 17 (.bool true) ?_
             refine tkV 18 ?_
             refine wpAnyH_done (by kernel_rfl) ?_ _
             obtain⟨g0,g1,-,-,q9⟩:=(show(fun W=>W.cell? ⟨wy.heap.size,0,none⟩=some (.int .i64 yn)∧W.cell? ⟨wy.heap.size,1,none⟩=some (.string yd)∧W.cell? (a2.add (i*2))=some (.int .i64 yn)∧W.cell? ⟨(a2.add (i*2)).block,(a2.add (i*2)).off+1,none⟩=some (.int .u32 (cv:Nat))∧Q wo W) _ by assumption)
             have hcat:Y.size+yd.size≤200000000:=by omega
             go_wp2_with fail
             go_roundw
             case rel=>exact⟨k+1,_,_,_,by omega,rfl,rfl,rfl,by go_num,by rw [ByteArray.size_append];omega,q9,HY2,HF2,HS2⟩
             case measure=>simp [intOf];omega
           ·have hi1':¬ (i:Int)<(M:Int) - 1:=by omega
            have HS2:Hid (false=true↔sh=true∨(i+1<M∧shI L ⟨yn,cv⟩ (k+1))):=AC (by exact GD HSK.out HSI.out (by simp [hi1]))
            clear HSK HSI HY HF
            refine wp_region_held_drew (S:=(fun W=>W.cell? ⟨wy.heap.size,0,none⟩=some (.int .i64 yn)∧W.cell? ⟨wy.heap.size,1,none⟩=some (.string yd)∧W.cell? (a2.add (i*2))=some (.int .i64 yn)∧W.cell? ⟨(a2.add (i*2)).block,(a2.add (i*2)).off+1,none⟩=some (.int .u32 (cv:Nat))∧Q wo W)) (by kernel_rfl) (SB) (fun hHeld=>?_)
            refine tkV 0 ?_
            refine tkV 1 ?_
            refine tkV 2 ?_
            refine tkV 3 ?_
            refine tkV 4 ?_
            refine tkV 5 ?_
            refine tkV 6 ?_
            refine tkB 7 (.bool true) ?_
            refine tkB 8 (.bool true) ?_
            refine tkV 9 ?_
            refine tkV 10 ?_
            refine tkV 12 ?_
            refine tkV 13 ?_
            refine tkV 14 ?_
            refine tkV 15 ?_
            refine tkV 16 ?_
            refine aR [11] ?_
            refine aC rfl (fun K hK=>?_) aN
            go_simp
            go_at_call 25
            refine(M1.out _ (by assumption)).mono ?_
            rintro e w' ⟨rfl,hS⟩
            refine hK.out _ _ hS (fun hHeld=>?_)
            clear hK K
            refine pg ?_
            refine tkB 17 (.bool true) ?_
            refine tkV 18 ?_
            refine wpAnyH_done (by kernel_rfl) ?_ _
            obtain⟨g0,g1,-,-,q9⟩:=(show(fun W=>W.cell? ⟨wy.heap.size,0,none⟩=some (.int .i64 yn)∧W.cell? ⟨wy.heap.size,1,none⟩=some (.string yd)∧W.cell? (a2.add (i*2))=some (.int .i64 yn)∧W.cell? ⟨(a2.add (i*2)).block,(a2.add (i*2)).off+1,none⟩=some (.int .u32 (cv:Nat))∧Q wo W) _ by assumption)
            have hcat:Y.size+yd.size≤200000000:=by omega
            go_wp2_with fail
            go_roundw
            case rel=>exact⟨k+1,_,_,_,by omega,rfl,rfl,rfl,by go_num,by rw [ByteArray.size_append];omega,q9,HY2,HF2,HS2⟩
            case measure=>simp [intOf];omega
        ·have hct':¬ (cv:Int)=(xt:Int):=by omega
         simp only [hct,decide_true,decide_false,Bool.and_false,Bool.or_false,Bool.false_eq_true,false_and,or_false] at SN AN SI
         have HY2:Hid (Y=X++mk (Ha ⟨yn,xt⟩ (L.take (k+1)))):=AC (by rw [HY.out,SN trivial])
         have HF2:Hid (f=(L.take (k+1)).any (mt ⟨yn,xt⟩)):=AC (by rw [HF.out,AN])
         have HS2:Hid (sk=true↔sh=true∨(i+1<M∧shI L ⟨yn,xt⟩ (k+1))):=AC (by rw [SI];exact HSK.out)
         clear SY SN AN SI hct
         refine wp_region_held_drew (S:=(fun W=>W.cell? ⟨wy.heap.size,0,none⟩=some (.int .i64 yn)∧W.cell? ⟨wy.heap.size,1,none⟩=some (.string yd)∧W.cell? (a2.add (i*2))=some (.int .i64 yn)∧W.cell? ⟨(a2.add (i*2)).block,(a2.add (i*2)).off+1,none⟩=some (.int .u32 (xt:Nat))∧Q wo W)) (by kernel_rfl) (SB) (fun hHeld=>?_)
         refine tkV 0 ?_
         refine tkV 1 ?_
         refine tkV 2 ?_
         refine tkV 3 ?_
         refine tkV 4 ?_
         refine tkV 5 ?_
         refine tkV 6 ?_
         refine tkB 7 (.bool true) ?_
         refine tkB 8 (.bool true) ?_
         refine tkV 9 ?_
         refine tkV 10 ?_
         refine tkV 12 ?_
         refine tkV 13 ?_
         refine tkV 14 ?_
         refine tkV 15 ?_
         refine tkV 16 ?_
         refine aR [11] ?_
         refine aC rfl (fun K hK=>?_) aN
         go_simp
         go_at_call 25
         refine(M1.out _ (by assumption)).mono ?_
         rintro e w' ⟨rfl,hS⟩
         refine hK.out _ _ hS (fun hHeld=>?_)
         clear hK K
         refine pg ?_
         refine tkB 17 (.bool false) ?_
         refine tkV 18 ?_
         refine wpAnyH_done (by kernel_rfl) ?_ _
         have q9:=(show(fun W=>W.cell? ⟨wy.heap.size,0,none⟩=some (.int .i64 yn)∧W.cell? ⟨wy.heap.size,1,none⟩=some (.string yd)∧W.cell? (a2.add (i*2))=some (.int .i64 yn)∧W.cell? ⟨(a2.add (i*2)).block,(a2.add (i*2)).off+1,none⟩=some (.int .u32 (xt:Nat))∧Q wo W) _ by assumption).2.2.2.2
         go_wp2_with fail
         go_roundw
         case rel=>exact⟨k+1,_,_,_,by omega,rfl,rfl,rfl,by go_num,by omega,q9,HY2,HF2,HS2⟩
         case measure=>simp [intOf];omega
       ·simp only [hyx,decide_false,Bool.false_and,Bool.or_false,Bool.false_eq_true,false_and,or_false] at SN AN SI
        have HY2:Hid (Y=X++mk (Ha ⟨xn,xt⟩ (L.take (k+1)))):=AC (by rw [HY.out,SN trivial])
        have HF2:Hid (f=(L.take (k+1)).any (mt ⟨xn,xt⟩)):=AC (by rw [HF.out,AN])
        have HS2:Hid (sk=true↔sh=true∨(i+1<M∧shI L ⟨xn,xt⟩ (k+1))):=AC (by rw [SI];exact HSK.out)
        clear SY SN AN SI
        refine wp_region_held_drew (S:=(fun W=>W.cell? ⟨wy.heap.size,0,none⟩=some (.int .i64 yn)∧W.cell? ⟨wy.heap.size,1,none⟩=some (.string yd)∧W.cell? (a2.add (i*2))=some (.int .i64 xn)∧W.cell? ⟨(a2.add (i*2)).block,(a2.add (i*2)).off+1,none⟩=some (.int .u32 (xt:Nat))∧Q wo W)) (by kernel_rfl) (SB) (fun hHeld=>?_)
        refine tkV 0 ?_
        refine tkV 1 ?_
        refine tkV 2 ?_
        refine tkV 3 ?_
        refine tkV 4 ?_
        refine tkV 5 ?_
        refine tkV 6 ?_
        refine tkB 7 (.bool false) ?_
        refine tkB 8 (.bool false) ?_
        refine tkU 9 ?_
        refine tkU 10 ?_
        refine tkU 12 ?_
        refine tkU 13 ?_
        refine tkU 14 ?_
        refine tkU 15 ?_
        refine tkU 16 ?_
        refine tkU 11 ?_
        refine tkU 17 ?_
        refine tkV 18 ?_
        refine wpAnyH_done (by kernel_rfl) ?_ _
        have q9:=(show(fun W=>W.cell? ⟨wy.heap.size,0,none⟩=some (.int .i64 yn)∧W.cell? ⟨wy.heap.size,1,none⟩=some (.string yd)∧W.cell? (a2.add (i*2))=some (.int .i64 xn)∧W.cell? ⟨(a2.add (i*2)).block,(a2.add (i*2)).off+1,none⟩=some (.int .u32 (xt:Nat))∧Q wo W) _ by assumption).2.2.2.2
        go_wp2_with fail
        go_roundw
        case rel=>exact⟨k+1,_,_,_,by omega,rfl,rfl,rfl,by go_num,by omega,q9,HY2,HF2,HS2⟩
        case measure=>simp [intOf];omega
      ·have hkN:¬ (k:Int)<(n:Int):=by omega
       have hTK:L.take k=L:=List.take_of_length_le (by have:=HN.out;omega)
       have hL:L.length=k:=by have:=HN.out;omega
       have HXL:Hid (Y=mk (Lf L (l.take (i+1)))):=AC (by rw [QP hltL,← HXI.out hltL,HY.out,HX.out,hTK];exact FL (by simp [CR,FK]))
       have HNX:Hid ((nn || !f)=(l.take (i+1)).any (fun x=>!L.any (mt x))):=AC (by rw [Jy hltL,← HXI.out hltL,HNN.out,HF.out,hTK])
       have HSX:Hid (sk=true↔shO L l (i+1)):=AC (by rw [Oj hltL,← HXI.out hltL,HSK.out,HSH.out,HM.out,hL])
       have HTX:Hid (T ++ [xt]=(l.take (i+1)).map (·.tag)):=AC (by rw [HTg.out,List.take_succ_eq_append_getElem hltL,List.map_append,← HXI.out hltL];rfl)
       clear HY HF HSK HX HNN HSH HTg hL HXI hTK
       obtain⟨t0,t1⟩:=HAC.out _ (q.trans qk)
       have o2:OwnN w1.heap.size wy (.slice A5 n5 c5) T:=own.on qk
       have q2:=q.trans qk
       have b0:=q2.size
       have CO:∀ j u,(Fe [xt])[j]?=some u→(wy.alloc (.cells #[.int .u32 (xt:Nat)] 60)).cell? ((⟨wy.heap.size,0,none⟩:Addr).add j)=some u:=Ju wy (.int .u32 (xt:Nat)) 60
       cases nn with
       | true=>
         go_wp2_with (at_builtin;refine wpList_append_own _ rfl _ _ 180 rfl w1.heap.size 60 i0 (.int .u32 0) 1 4 Tryz.underlying180 hi hz0 hz1 hz2 rfl (by decide) _ _ _ rfl (World.ownsRow.alloc o2 _) ⟨_,0,none⟩ 1 1 (Fe [xt]) rfl rfl CO (ED _) (by unfold maxLen;first | omega | (simp;try omega)) (by first | omega | (simp;try omega)) (by first | omega | (simp;try omega)) ?_;intro v3 w3 g3 g4 _;have r2:OwnN w1.heap.size w3 v3 (T ++ [xt]):=OwnN.onto (L:=T) (M:=[xt]) g3 rfl;have b2:=ET (Below.alloc q2 (by first | omega | (simp;try omega)) _) (by first | omega | (simp;try omega)) (World.ownsRow.alloc o2 _) g4;clear g3 g4)
         obtain⟨A6,c6,rfl⟩:=r2.form
         go_roundw
         case rel=>exact⟨i+1,_,_,true,_,_,_,_,by omega,rfl,rfl,rfl,rfl,by go_num,by omega,by simp [hTl],r2,b2,HTX,HXL,HNX,HSX⟩
         case measure=>simp [intOf];omega
       | false=>
         cases f with
         | true=>
           go_wp2_with (at_builtin;refine wpList_append_own _ rfl _ _ 180 rfl w1.heap.size 60 i0 (.int .u32 0) 1 4 Tryz.underlying180 hi hz0 hz1 hz2 rfl (by decide) _ _ _ rfl (World.ownsRow.alloc o2 _) ⟨_,0,none⟩ 1 1 (Fe [xt]) rfl rfl CO (ED _) (by unfold maxLen;first | omega | (simp;try omega)) (by first | omega | (simp;try omega)) (by first | omega | (simp;try omega)) ?_;intro v3 w3 g3 g4 _;have r2:OwnN w1.heap.size w3 v3 (T ++ [xt]):=OwnN.onto (L:=T) (M:=[xt]) g3 rfl;have b2:=ET (Below.alloc q2 (by first | omega | (simp;try omega)) _) (by first | omega | (simp;try omega)) (World.ownsRow.alloc o2 _) g4;clear g3 g4)
           obtain⟨A6,c6,rfl⟩:=r2.form
           go_roundw
           case rel=>exact⟨i+1,_,_,false,_,_,_,_,by omega,rfl,rfl,rfl,rfl,by go_num,by omega,by simp [hTl],r2,b2,HTX,HXL,HNX,HSX⟩
           case measure=>simp [intOf];omega
         | false=>
           go_wp2_with (at_builtin;refine wpList_append_own _ rfl _ _ 180 rfl w1.heap.size 60 i0 (.int .u32 0) 1 4 Tryz.underlying180 hi hz0 hz1 hz2 rfl (by decide) _ _ _ rfl (World.ownsRow.alloc o2 _) ⟨_,0,none⟩ 1 1 (Fe [xt]) rfl rfl CO (ED _) (by unfold maxLen;first | omega | (simp;try omega)) (by first | omega | (simp;try omega)) (by first | omega | (simp;try omega)) ?_;intro v3 w3 g3 g4 _;have r2:OwnN w1.heap.size w3 v3 (T ++ [xt]):=OwnN.onto (L:=T) (M:=[xt]) g3 rfl;have b2:=ET (Below.alloc q2 (by first | omega | (simp;try omega)) _) (by first | omega | (simp;try omega)) (World.ownsRow.alloc o2 _) g4;clear g3 g4)
           obtain⟨A6,c6,rfl⟩:=r2.form
           go_roundw
           case rel=>exact⟨i+1,_,_,true,_,_,_,_,by omega,rfl,rfl,rfl,rfl,by go_num,by omega,by simp [hTl],r2,b2,HTX,HXL,HNX,HSX⟩
           case measure=>simp [intOf];omega
    ·have hiM:¬ (i:Int)<(M:Int):=by omega
     have HEND:=Lo (u:=⟨id,key,L⟩) (l:=l) (sh:=sh) (nn:=nn) OKU.out (by have:=HM.out;omega) RI.out (by have:=HNN.out;rw [List.take_of_length_le (by have:=HM.out;omega)] at this;exact this) (by have:=HSH.out;rw [show i=l.length by have:=HM.out;omega] at this;exact this)
     have HXX:X=mk (Lf L l):=by have:=HX.out;rw [List.take_of_length_le (by have:=HM.out;omega)] at this;exact this
     have HLN:(Lf L l).length=X.size:=by rw [HXX,BW]
     simp only at HEND
     rw [HLN] at HEND
     cases nn with
     | true=>
       rw [if_pos rfl] at HEND
       have HV:=AC (HW.out _ _ _ HEND)
       clear HEND HXX HLN
       go_wp2
       refine bodyPost_ret (v:=.tuple #[.string ⟨#[]⟩,.string ⟨#[]⟩,.int .i64 4]) (by simp [results,Tryz.results90,go_sem]) rfl ⟨(Eq.trans (by rfl) HV.out),QW.out.trans q⟩
     | false=>
       rw [if_neg (by simp)] at HEND
       cases sh with
       | true=>
         rw [if_pos rfl] at HEND
         have HV:=AC (HW.out _ _ _ HEND)
         clear HEND HXX HLN
         go_wp2
         refine bodyPost_ret (v:=.tuple #[.string ⟨#[]⟩,.string ⟨#[]⟩,.int .i64 3]) (by simp [results,Tryz.results90,go_sem]) rfl ⟨(Eq.trans (by rfl) HV.out),QW.out.trans q⟩
       | false=>
         rw [if_neg (by simp)] at HEND
         by_cases h20:2000<X.size
         ·rw [if_pos h20] at HEND
          have HV:=AC (HW.out _ _ _ HEND)
          have h20':(2000:Int)<(X.size:Int):=by omega
          clear HEND HXX HLN
          go_wp2
          refine bodyPost_ret (v:=.tuple #[.string ⟨#[]⟩,.string ⟨#[]⟩,.int .i64 6]) (by simp [results,Tryz.results90,go_sem]) rfl ⟨(Eq.trans (by rfl) HV.out),QW.out.trans q⟩
         ·rw [if_neg h20] at HEND
          have HV:=AC (HW.out _ _ _ HEND)
          have h20':¬ (2000:Int)<(X.size:Int):=by omega
          have HFEW:=AC (J4 HEND)
          have HXE:=AC HXX
          have hTT:T=l.map (·.tag):=by have:=HTg.out;rw [List.take_of_length_le (by have:=HM.out;omega)] at this;exact this
          have MN:=AC (KP T (.slice A5 n5 c5) wo (by omega) (by rw [hTT,List.length_map];have:=HFEW.out;omega) (own.nums (by
           intro y hy
           rw [hTT] at hy
           obtain⟨p,hp,rfl⟩:=List.mem_map.1 hy
           obtain⟨j,hj,rfl⟩:=List.getElem_of_mem hp
           obtain⟨-,-,-,-,ok,-⟩:=HZ.out.pick j hj
           exact ok.2.2)))
          obtain⟨S,hS⟩:∃ S,S=mk (DA T):=⟨_,rfl⟩
          rw [← hS] at MN
          have HS9:Hid (S=mk (DA (l.map (·.tag)))):=AC (by rw [hS,hTT])
          clear HEND HXX HLN hTT hS
          go_wp2_with fail
          refine(MN.out).mono ?_
          rintro e w9 ⟨rfl,q9⟩
          go_wp2
          refine bodyPost_ret (v:=.tuple #[.string X,.string S,.int .i64 0]) (by simp [results,Tryz.results90,go_sem]) rfl ⟨(by rw [HXE.out,HS9.out];exact HV.out),QW.out.trans (q.trans q9)⟩
end
end Go.Proofs.YtjjlbbfhmpbneaaGreat
