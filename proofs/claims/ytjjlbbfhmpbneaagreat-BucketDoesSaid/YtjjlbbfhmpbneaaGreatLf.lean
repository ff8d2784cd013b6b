/-
  Contracts of the document's Drop and Find. Contracts of the program's may, of its closures, of slices.IndexFunc and place. Contracts of slices.IndexFunc, slices.ContainsFunc and place. Contract of the program's Check. Contracts of the program's told, Get and Find, and of the document's Get. Contract of the document's Get. Contracts of the program's Get and Find, and of the document's Get. append of versions to a row of the call's own; contracts of slices.Grow, slices.Concat. Contract of slices.Concat of two chains.
-/
import Derived.Test.YtjjlbbfhmpbneaaGreatLe
import Derived.Shelf.Abstract
import Derived.Lib.AppendZerosOnto
import Derived.Lib.SliceRun
import Derived.Laws.AppendOwnNone
namespace Go.Proofs.YtjjlbbfhmpbneaaGreat
open Lib renaming hid → AC
set_option maxHeartbeats 16000000
set_option maxRecDepth 100000
set_option linter.unusedVariables false
set_option linter.unusedSimpArgs false
section
open Go.ChangeShapes Go.WideShapes Go.ChangeAt Go.RowKit
theorem MP(l:List Ver)(v:Value)(id:Nat)(w:World)(hR:QU l false)(hl:l.length≤1000)(ht:Vers w w.heap.size v l):
  Calls Tryz.prog 85 #[v,.int .u64 (id:Nat)] w fun e w'=>e=.returned (.tuple #[.slice none 0 0,.int .i64 1])∧Q w w':=by
 have C:=AC (AR l v w false hR hl ht)
 go_enter Tryz.func85,Tryz.ntmps85
 go_wp2_with fail
 refine(C.out).mono ?_
 rintro e w1 ⟨rfl,q1⟩
 go_wp2
 go_ret2
 exact⟨rfl,q1⟩
theorem Ae{base:Nat}{w:World}{v:Value}{l:List Ver}(h:OwnV base w v l):∃ A c,v=.slice A l.length c:=by
 rcases h.2 with⟨rfl,h0⟩ | ⟨g,cap,cur,rfl,-⟩
 ·exact⟨none,0,by rw [h0]⟩
 ·exact⟨_,_,rfl⟩
theorem KT(l:List Ver)(v:Value)(id:Nat)(w:World)(hR:QU l true)(hn:(woV l id).length=l.length)(hl:l.length≤1000)(ht:Vers w w.heap.size v l):
  Calls Tryz.prog 85 #[v,.int .u64 (id:Nat)] w fun e w'=>e=.returned (.tuple #[.slice none 0 0,.int .i64 4])∧Q w w':=by
 have C:=AC (AR l v w true hR hl ht)
 have HW:Hid (∀ b,Q w b→Calls Tryz.prog 127 #[v,.int .u64 (id:Nat)] b fun e w'=>∃ v',e=.returned v'∧OwnV b.heap.size w' v' (woV l id)∧Q b w'):=AC (fun b q=>Bi l v id b hl (ht.on q))
 have HN:=AC hn
 obtain⟨A,c,rfl,-⟩:=ht
 clear hn hR
 go_enter Tryz.func85,Tryz.ntmps85
 go_wp2_with fail
 refine(C.out).mono ?_
 rintro e w1 ⟨rfl,q1⟩
 go_wp2_with fail
 refine(HW.out _ q1).mono ?_
 rintro e w2 ⟨v',rfl,ho,q2⟩
 obtain⟨A',c',rfl⟩:=Ae ho
 rw [HN.out]
 go_wp2
 go_ret2
 exact⟨rfl,q1.trans q2⟩
theorem MO(l:List Ver)(v:Value)(id:Nat)(w:World)(hR:QU l true)(hn:(woV l id).length≠l.length)(hl:l.length≤1000)(ht:Vers w w.heap.size v l):
  Calls Tryz.prog 85 #[v,.int .u64 (id:Nat)] w fun e w'=>∃ v',e=.returned (.tuple #[v',.int .i64 0])∧OwnV w.heap.size w' v' (woV l id)∧Q w w':=by
 have C:=AC (AR l v w true hR hl ht)
 have HW:Hid (∀ b,Q w b→Calls Tryz.prog 127 #[v,.int .u64 (id:Nat)] b fun e w'=>∃ v',e=.returned v'∧OwnV b.heap.size w' v' (woV l id)∧Q b w'):=AC (fun b q=>Bi l v id b hl (ht.on q))
 have hn':(((woV l id).length:Int)==(l.length:Int))=false:=by
  have:¬ ((woV l id).length:Int)=(l.length:Int):=by omega
  simpa using this
 obtain⟨A,c,rfl,-⟩:=ht
 clear hn hR
 go_enter Tryz.func85,Tryz.ntmps85
 go_wp2_with fail
 refine(C.out).mono ?_
 rintro e w1 ⟨rfl,q1⟩
 go_wp2_with fail
 refine(HW.out _ q1).mono ?_
 rintro e w2 ⟨v',rfl,ho,q2⟩
 have HO:=AC ho
 obtain⟨A',c',rfl⟩:=Ae ho
 clear ho
 go_wp2
 go_ret2
 refine⟨_,rfl,?_,q1.trans q2⟩
 obtain⟨o1,o2⟩:=HO.out
 refine⟨o1,?_⟩
 rcases o2 with h | ⟨g,cap,cur,e,hb,r⟩
 ·exact .inl h
 ·exact .inr ⟨g,cap,cur,e,Nat.le_trans q1.size hb,r⟩
def Tj:Value:=.agg #[.int .u64 0,.string ⟨#[]⟩,.bool false,.int .i64 0]
def findV(l:List Ver)(id:Nat):Option Ver:=l.find? fun x=>decide (x.id=id)
def Iu(o:Option Ver):Value:=match o with
 | some x=>.tuple #[ver x,.int .i64 (if x.mark then 13 else 0)]
 | none=>.tuple #[Tj,.int .i64 4]
theorem Qq{w w1:World}(q:Q (w.alloc (.cells #[.int .u64 0,.string ⟨#[]⟩,.bool false,.int .i64 0] 49)) w1):
  w1.cell? ⟨w.heap.size,0,none⟩=some (.int .u64 0)∧w1.cell? ⟨w.heap.size,1,none⟩=some (.string ⟨#[]⟩)∧w1.cell? ⟨w.heap.size,2,none⟩=some (.bool false)∧w1.cell? ⟨w.heap.size,3,none⟩=some (.int .i64 0)∧
  w1.frozen? ⟨w.heap.size,0,none⟩=false∧w1.frozen? ⟨w.heap.size,1,none⟩=false∧w1.frozen? ⟨w.heap.size,2,none⟩=false∧w1.frozen? ⟨w.heap.size,3,none⟩=false:=by
 have c:∀ k,w1.cell? ⟨w.heap.size,k,none⟩=(w.alloc (.cells #[.int .u64 0,.string ⟨#[]⟩,.bool false,.int .i64 0] 49)).cell? ⟨w.heap.size,k,none⟩:=fun k=>Below.cell q (p:=⟨w.heap.size,k,none⟩) (by simp)
 have f:∀ k,w1.frozen? ⟨w.heap.size,k,none⟩=(w.alloc (.cells #[.int .u64 0,.string ⟨#[]⟩,.bool false,.int .i64 0] 49)).frozen? ⟨w.heap.size,k,none⟩:=fun k=>Below.frozen q (p:=⟨w.heap.size,k,none⟩) (by simp)
 refine⟨(c 0).trans ?_,(c 1).trans ?_,(c 2).trans ?_,(c 3).trans ?_,(f 0).trans ?_,(f 1).trans ?_,(f 2).trans ?_,(f 3).trans ?_⟩ <;> simp [go_sem]
end
section
open Go.ChangeShapes Go.WideShapes Go.ChangeAt Go.RowKit
theorem Bt(v:Ver)(w:World):
  Calls Tryz.prog 132 #[ver v] w fun e w'=>e=.returned (.bool (B9 v))∧Q w w':=by
 have HF:=AC (show B9 v=(decide (v.id≤281474976710655)&&decide (v.data.size≤2000)&&(!v.mark||decide (v.data.size=0))&&decide (0≤v.tm)&&decide (v.tm≤1099511627775)) from rfl)
 have HQ:=AC (fun o=>(Q.refl w).alloc o)
 obtain⟨i,d,m,t⟩:=v
 rw [ver]
 simp only at HF ⊢
 by_cases h1:i≤281474976710655
 ·have j1:¬ (281474976710655:Int)<(i:Int):=by omega
  rcases Q7 t with h3 | ⟨h3,h4⟩ | ⟨h3,h4⟩
  ·have h3':t<0:=by omega
   have HV:=AC (HF.out.trans (by simp [*]:_=false))
   go_enter Tryz.func132,Tryz.ntmps132
   go_wp2
   go_ret
   exact⟨AE (by rw [HV.out]),HQ.out _⟩
  ·have h3':¬ t<0:=by omega
   have h4':¬ 1099511627775<t:=by omega
   cases m
   ·by_cases h2:d.size≤2000
    ·have j2:(d.size:Int)≤2000:=by omega
     have HV:=AC (HF.out.trans (by simp [*]:_=true))
     go_enter Tryz.func132,Tryz.ntmps132
     go_wp2
     go_ret
     exact⟨AE (by rw [HV.out]),HQ.out _⟩
    ·have j2:¬ (d.size:Int)≤2000:=by omega
     have HV:=AC (HF.out.trans (by simp [*]:_=false))
     go_enter Tryz.func132,Tryz.ntmps132
     go_wp2
     go_ret
     exact⟨AE (by rw [HV.out]),HQ.out _⟩
   ·by_cases hz:d.size=0
    ·have e1:=NM hz
     have e2:=Jm hz
     have HV:=AC (HF.out.trans (by simp [*]:_=true))
     go_enter Tryz.func132,Tryz.ntmps132
     go_wp2
     go_ret
     exact⟨AE (by rw [HV.out]),HQ.out _⟩
    ·have e1:=Ql (t:=d) (by omega)
     have e2:=NN (t:=d) (by omega)
     have HV:=AC (HF.out.trans (by simp [*]:_=false))
     go_enter Tryz.func132,Tryz.ntmps132
     go_wp2
     go_ret
     exact⟨AE (by rw [HV.out]),HQ.out _⟩
  ·have h3':¬ t<0:=by omega
   have h4':1099511627775<t:=by omega
   have HV:=AC (HF.out.trans (by simp [*]:_=false))
   go_enter Tryz.func132,Tryz.ntmps132
   go_wp2
   go_ret
   exact⟨AE (by rw [HV.out]),HQ.out _⟩
 ·have j1:(281474976710655:Int)<(i:Int):=by omega
  have HV:=AC (HF.out.trans (by simp [h1]:_=false))
  go_enter Tryz.func132,Tryz.ntmps132
  go_wp2
  go_ret
  exact⟨AE (by rw [HV.out]),HQ.out _⟩
theorem Pi(x:Ver)(id B:Nat)(w:World)(hc:w.cell? ⟨B,0,none⟩=some (.int .u64 (id:Nat)))(hB:B<w.heap.size):
  Calls Tryz.prog 140 #[ver x,.pointer (some ⟨B,0,none⟩)] w fun e w'=>e=.returned (.bool (decide (x.id=id)))∧Q w w':=by
 have HQ:=AC (fun o=>(Q.refl w).alloc o)
 have hne:B≠w.heap.size:=by omega
 rw [ver]
 by_cases h:x.id=id
 ·have h1:((x.id:Int)==(id:Int))=true:=by simp [h]
  have HV:Hid (decide (x.id=id)=true):=AC (by simp [h])
  clear h
  go_enter Tryz.func140,Tryz.ntmps140
  go_wp2
  go_ret
  exact⟨AE (by rw [HV.out]),HQ.out _⟩
 ·have h1:((x.id:Int)==(id:Int))=false:=by
   have:¬ (x.id:Int)=(id:Int):=by omega
   simpa using this
  have HV:Hid (decide (x.id=id)=false):=AC (by simp [h])
  clear h
  go_enter Tryz.func140,Tryz.ntmps140
  go_wp2
  go_ret
  exact⟨AE (by rw [HV.out]),HQ.out _⟩
theorem Cj(x y:Ver)(B:Nat)(w:World)(hc:w.cell? ⟨B,0,none⟩=some (.int .u64 (y.id:Nat)))(hB:B<w.heap.size):
  Calls Tryz.prog 159 #[ver x,.pointer (some ⟨B,0,none⟩)] w fun e w'=>e=.returned (.bool (decide (y.id≤x.id)))∧Q w w':=by
 have HQ:=AC (fun o=>(Q.refl w).alloc o)
 have hne:B≠w.heap.size:=by omega
 rw [ver]
 by_cases h:y.id≤x.id
 ·have h1:(y.id:Int)≤(x.id:Int):=by omega
  have HV:Hid (decide (y.id≤x.id)=true):=AC (by simp [h])
  clear h
  go_enter Tryz.func159,Tryz.ntmps159
  go_wp2
  go_ret
  exact⟨AE (by rw [HV.out]),HQ.out _⟩
 ·have h1:¬ (y.id:Int)≤(x.id:Int):=by omega
  have HV:Hid (decide (y.id≤x.id)=false):=AC (by simp [h])
  clear h
  go_enter Tryz.func159,Tryz.ntmps159
  go_wp2
  go_ret
  exact⟨AE (by rw [HV.out]),HQ.out _⟩
end
section
open Go.ChangeShapes Go.WideShapes Go.ChangeAt Go.RowKit
def Gt(p:Ver→Bool)(l:List Ver):Int:=match l.findIdx? p with
 | some i=>(i:Nat)
 | none=>-1
theorem Pm{p:Ver→Bool}{l:List Ver}{i:Nat}(hl:i<l.length)(h:p l[i]=true)(k:∀ j (hj:j<i) (hl:j<l.length),p l[j]=false):Gt p l=i:=by
 have:l.findIdx? p=some i:=by
  rw [List.findIdx?_eq_some_iff_getElem]
  exact⟨hl,h,fun j hj=>by rw [k j hj (by omega)];simp⟩
 rw [Gt,this]
theorem Hq{p:Ver→Bool}{l:List Ver}(k:∀ j (hl:j<l.length),p l[j]=false):Gt p l = -1:=by
 have:l.findIdx? p=none:=by
  rw [List.findIdx?_eq_none_iff]
  intro x hx
  obtain⟨j,hj,rfl⟩:=List.getElem_of_mem hx
  exact k j hj
 rw [Gt,this]
theorem DW(g B:Nat)(p:Ver→Bool)(l:List Ver)(v:Value)(w:World)(eg:∀ args w,(callFunc g args).run Tryz.prog w=.ok (.enter g args) w)
  (hp:∀ x b,Q w b→Calls Tryz.prog g #[ver x,.pointer (some ⟨B,0,none⟩)] b fun e w'=>e=.returned (.bool (p x))∧Q b w')
  (hl:l.length≤1000) (ht:Vers w w.heap.size v l) :
  Calls Tryz.prog 135 #[v,.func (.func g) #[] #[.pointer (some ⟨B,0,none⟩)]] w fun e w'=>e=.returned (.int .i64 (Gt p l))∧Q w w':=by
 obtain⟨A,c,rfl,-,-,-,hcells⟩:=ht
 have HC:=AC hcells
 have HP:=AC hp
 clear hcells hp
 go_enter Tryz.func135,Tryz.ntmps135
 go_wp2_with fail
 go_loopw [5,8] (fun _ I wr=>∃ i:Nat,i≤l.length∧I=.int .i64 i∧Q w wr∧Hid (∀ j (hj:j<i) (hl:j<l.length),p l[j]=false)) (fun _ I _=>l.length - (intOf I).toNat)
 case atStart=>exact⟨0,Nat.zero_le _,rfl,Q.refl _,AC (fun j h=>by omega)⟩
 case round=>
  obtain⟨i,hil,rfl,q,HK⟩:=hrel
  by_cases hlt:i<l.length
  ·obtain⟨a,rfl,ha,hat⟩:=HC.out i hlt
   obtain⟨c0,c1,c2,c3⟩:=hat.keep (by rw [AG];exact ha) fun _ hp=>q.cell hp
   clear hat
   cases hpx:p l[i] with
   | true=>
     have HV:=AC (Pm hlt hpx HK.out)
     obtain⟨x,hx⟩:∃ x,x=l[i]:=⟨_,rfl⟩
     rw [← hx] at c0 c1 c2 c3 hpx
     clear hx
     have C:=HP.out x wr q
     rw [hpx,ver] at C
     have C:=AC C
     clear hpx
     go_wp2_with (go_at_fn g;refine(C.out).mono ?_;rintro e w1 ⟨rfl,q1⟩)
     go_ret
     exact⟨by rw [HV.out];rfl,q.trans q1⟩
   | false=>
     have HK2:Hid (∀ j (hj:j<i+1) (hl:j<l.length),p l[j]=false):=AC (fun j hj hl=>by
      by_cases e:j=i
      ·subst e;exact hpx
      ·exact HK.out j (by omega) hl)
     obtain⟨x,hx⟩:∃ x,x=l[i]:=⟨_,rfl⟩
     rw [← hx] at c0 c1 c2 c3 hpx
     clear hx
     have C:=HP.out x wr q
     rw [hpx,ver] at C
     have C:=AC C
     clear hpx
     go_wp2_with (go_at_fn g;refine(C.out).mono ?_;rintro e w1 ⟨rfl,q1⟩)
     go_roundw
     case rel=>exact⟨i+1,by omega,by go_num,q.trans q1,HK2⟩
     case measure=>simp [intOf];omega
  ·have HV:=AC (Hq (p:=p) (l:=l) (fun j hl=>HK.out j (by omega) hl))
   go_wp2
   go_ret
   exact⟨by rw [HV.out];rfl,q⟩
theorem P7:∀ args w,(callFunc 140 args).run Tryz.prog w=.ok (.enter 140 args) w:=enters_of Tryz.func140 (by kernel_rfl) rfl
theorem NS:∀ args w,(callFunc 159 args).run Tryz.prog w=.ok (.enter 159 args) w:=enters_of Tryz.func159 (by kernel_rfl) rfl
theorem Mx(p:Ver→Bool)(l:List Ver):(0≤Gt p l)↔l.any p=true:=by
 unfold Gt
 cases h:l.findIdx? p with
 | some i=>
   rw [List.findIdx?_eq_some_iff_getElem] at h
   obtain⟨hi,hp,-⟩:=h
   refine⟨fun _=>List.any_eq_true.2 ⟨_,List.getElem_mem hi,hp⟩,fun _=>by simp⟩
 | none=>
   rw [List.findIdx?_eq_none_iff] at h
   refine⟨fun k=>by simp at k,fun k=>?_⟩
   obtain⟨x,hx,hp⟩:=List.any_eq_true.1 k
   rw [h x hx] at hp;simp at hp
theorem Aq(g B:Nat)(p:Ver→Bool)(l:List Ver)(v:Value)(w:World)(eg:∀ args w,(callFunc g args).run Tryz.prog w=.ok (.enter g args) w)
  (hp:∀ x b,Q w b→Calls Tryz.prog g #[ver x,.pointer (some ⟨B,0,none⟩)] b fun e w'=>e=.returned (.bool (p x))∧Q b w')
  (hl:l.length≤1000) (ht:Vers w w.heap.size v l) :
  Calls Tryz.prog 96 #[v,.func (.func g) #[] #[.pointer (some ⟨B,0,none⟩)]] w fun e w'=>e=.returned (.bool (l.any p))∧Q w w':=by
 have C:=AC (DW g B p l v w eg hp hl ht)
 have HS:=Mx p l
 clear hp
 cases h:l.any p with
 | true=>
   have k:0≤Gt p l:=HS.2 h
   clear HS
   generalize Gt p l=r at C k
   go_enter Tryz.func96,Tryz.ntmps96
   go_wp2_with fail
   refine(C.out).mono ?_
   rintro e w1 ⟨rfl,q1⟩
   go_wp2
   go_ret
   exact⟨by first | rfl | simp [k],q1⟩
 | false=>
   have k:¬ 0≤Gt p l:=fun e=>by rw [HS.1 e] at h;simp at h
   clear HS
   generalize Gt p l=r at C k
   go_enter Tryz.func96,Tryz.ntmps96
   go_wp2_with fail
   refine(C.out).mono ?_
   rintro e w1 ⟨rfl,q1⟩
   go_wp2
   go_ret
   exact⟨by first | rfl | simp [k],q1⟩
theorem Hg(l:List Ver)(v:Value)(id:Nat)(w:World)(hl:l.length≤1000)(ht:Vers w w.heap.size v l):
  Calls Tryz.prog 108 #[v,.int .u64 (id:Nat)] w fun e w'=>e=.returned (.int .i64 (Gt (fun x=>decide (x.id=id)) l))∧Q w w':=by
 have q0:Q w (w.alloc (.cells #[.int .u64 (id:Nat)] 24)):=(Q.refl w).alloc _
 have C:=AC (DW 140 w.heap.size (fun x=>decide (x.id=id)) l v (w.alloc (.cells #[.int .u64 (id:Nat)] 24)) P7
  (fun x b q=>Pi x id w.heap.size b ((Below.cell q (p:=⟨w.heap.size,0,none⟩) (by simp)).trans (by simp)) (Nat.lt_of_lt_of_le (by simp) (Q.size q))) hl (ht.on q0))
 have hmf:=@HMF
 go_enter Tryz.func108,Tryz.ntmps108
 go_wp2_with fail
 refine(C.out).mono ?_
 rintro e w1 ⟨rfl,q1⟩
 go_wp2
 go_ret
 exact⟨rfl,q0.trans q1⟩
end
section
open Go.ChangeShapes Go.WideShapes Go.ChangeAt Go.RowKit
def N3(l:List Ver)(i A:Nat)(Z:Bool)(T:Int):Prop:=
 (∀ j,j<i→Ca l j)∧(∀ k (hk:k<i) (h:k<l.length),l[k].id≠0→A≤l[k].id)∧(A=281474976710656∨∃ k,k<i∧∃ h:k<l.length,A=l[k].id∧l[k].id≠0)∧
 (Z=true↔∃ k,k<i∧∃ h:k<l.length,l[k].id=0)∧(i=0→T=1099511627775)∧(∀ j (hj:j+1=i) (h:j<l.length),T=l[j].tm)
theorem Ng(l:List Ver):N3 l 0 281474976710656 false 1099511627775:=
 ⟨fun j h=>by omega,fun k h=>by omega,.inl rfl,by simp,fun _=>rfl,fun j h=>by omega⟩
theorem Ni{l:List Ver}{i A:Nat}{Z:Bool}{T:Int}(h:N3 l i A Z T)(hi:i<l.length)(hm:B9 l[i]=true)(ht:T<l[i].tm):¬ okP l:=by
 intro o
 obtain⟨-,-,-,-,h0,hT⟩:=h
 obtain⟨-,-,-,-,m5⟩:=GR.1 hm
 cases i with
 | zero=>rw [h0 rfl] at ht;omega
 | succ j=>
   rw [hT j rfl (by omega)] at ht
   exact(o.2 (j+1)).2.1 j rfl hi ht
theorem LH{l:List Ver}{i A:Nat}{Z:Bool}{T:Int}(h:N3 l i A Z T)(hi:i<l.length)(hm:B9 l[i]=true)(ha:A≤l[i].id):¬ okP l:=by
 intro o
 obtain⟨m1,-⟩:=GR.1 hm
 obtain⟨-,-,hA,-⟩:=h
 rcases hA with hA | ⟨k,hk,hkl,hA,hz⟩
 ·omega
 ·have:=(o.2 i).2.2 k hi hk hkl
  rw [BH,if_neg (by omega),if_neg hz] at this
  have h2:l[k].id≤l[i].id:=by omega
  simp [h2] at this
theorem LF{l:List Ver}{i A:Nat}{Z:Bool}{T:Int}(h:N3 l i A Z T)(hi:i<l.length)(h0:l[i].id=0)(hZ:Z=true):¬ okP l:=by
 intro o
 obtain⟨-,-,-,hz,-⟩:=h
 obtain⟨k,hk,hkl,e⟩:=hz.1 hZ
 have:=(o.2 i).2.2 k hi hk hkl
 rw [BH,if_pos h0] at this
 simp [e] at this
theorem H2{l:List Ver}{i A:Nat}{Z:Bool}{T:Int}(h:N3 l i A Z T)(hi:i<l.length)(hm:B9 l[i]=true)(ht:¬ T<l[i].tm)(ha:¬ A≤l[i].id)(hz:¬ (l[i].id=0∧Z=true)):Ca l i:=by
 obtain⟨h1,h2,h3,h4,h5,h6⟩:=h
 refine⟨fun _=>hm,fun j hj _=>?_,fun k _ hk hkl=>?_⟩
 ·rw [h6 j hj (by omega)] at ht;exact ht
 ·unfold BH
  by_cases h0:l[i].id=0
  ·rw [if_pos h0,decide_eq_false_iff_not]
   exact fun e=>hz ⟨h0,h4.2 ⟨k,hk,hkl,e⟩⟩
  ·rw [if_neg h0]
   by_cases hk0:l[k].id=0
   ·rw [if_pos hk0]
   ·rw [if_neg hk0,decide_eq_false_iff_not]
    have:=h2 k hk hkl hk0
    omega
theorem LG{l:List Ver}{i A:Nat}{T:Int}(h:N3 l i A false T)(hi:i<l.length)(hs:Ca l i)(h0:l[i].id=0):N3 l (i+1) A true l[i].tm:=by
 obtain⟨h1,h2,h3,h4,h5,h6⟩:=h
 refine⟨fun j hj=>?_,fun k hk hkl hk0=>?_,?_,⟨fun _=>⟨i,by omega,hi,h0⟩,fun _=>rfl⟩,fun e=>by omega,fun j hj hjl=>?_⟩
 ·by_cases e:j=i
  ·subst e;exact hs
  ·exact h1 j (by omega)
 ·by_cases e:k=i
  ·subst e;exact absurd h0 hk0
  ·exact h2 k (by omega) hkl hk0
 ·rcases h3 with h3 | ⟨k,hk,r⟩
  ·exact .inl h3
  ·exact .inr ⟨k,by omega,r⟩
 ·have e:j=i:=by omega
  subst e;rfl
theorem Nh{l:List Ver}{i A:Nat}{Z:Bool}{T:Int}(h:N3 l i A Z T)(hi:i<l.length)(hs:Ca l i)(h0:l[i].id≠0)(ha:¬ A≤l[i].id):N3 l (i+1) l[i].id Z l[i].tm:=by
 obtain⟨h1,h2,h3,h4,h5,h6⟩:=h
 refine⟨fun j hj=>?_,fun k hk hkl hk0=>?_,.inr ⟨i,by omega,hi,rfl,h0⟩,⟨fun hZ=>?_,fun ⟨k,hk,hkl,e⟩=>?_⟩,fun e=>by omega,fun j hj hjl=>?_⟩
 ·by_cases e:j=i
  ·subst e;exact hs
  ·exact h1 j (by omega)
 ·by_cases e:k=i
  ·subst e;omega
  ·have:=h2 k (by omega) hkl hk0
   omega
 ·obtain⟨k,hk,r⟩:=h4.1 hZ
  exact⟨k,by omega,r⟩
 ·by_cases e2:k=i
  ·subst e2;exact absurd e h0
  ·exact h4.2 ⟨k,by omega,hkl,e⟩
 ·have e:j=i:=by omega
  subst e;rfl
theorem QX{l:List Ver}{i A:Nat}{Z:Bool}{T:Int}(h:N3 l i A Z T):0<A:=by
 obtain⟨h1,h2,h3,h4,h5,h6⟩:=h
 rcases h3 with h3 | ⟨k,hk,hkl,e,e0⟩ <;> omega
theorem Aa{w w1:World}{i:Int}{d:ByteArray}{m:Bool}{t:Int}(q:Q (w.alloc (.cells #[.int .u64 i,.string d,.bool m,.int .i64 t] 49)) w1):
  w1.cell? ⟨w.heap.size,0,none⟩=some (.int .u64 i)∧w1.cell? ⟨w.heap.size,1,none⟩=some (.string d)∧w1.cell? ⟨w.heap.size,2,none⟩=some (.bool m)∧w1.cell? ⟨w.heap.size,3,none⟩=some (.int .i64 t):=by
 have c:∀ k,w1.cell? ⟨w.heap.size,k,none⟩=(w.alloc (.cells #[.int .u64 i,.string d,.bool m,.int .i64 t] 49)).cell? ⟨w.heap.size,k,none⟩:=fun k=>Below.cell q (p:=⟨w.heap.size,k,none⟩) (by simp)
 refine⟨(c 0).trans ?_,(c 1).trans ?_,(c 2).trans ?_,(c 3).trans ?_⟩ <;> simp [go_sem]
def Fz(R:Bool):Int:=if R then 0 else 1
theorem Cp(l:List Ver)(v:Value)(w:World)(R:Bool)(hR:QU l R)(hl:l.length≤1000)(ht:Vers w w.heap.size v l):
  Calls Tryz.prog 94 #[v] w fun e w'=>e=.returned (.int .i64 (Fz R))∧Q w w':=by
 obtain⟨A,c,rfl,-,-,-,hcells⟩:=ht
 have HC:=AC hcells
 have HR:=AC hR
 clear hcells hR
 by_cases h20:l.length≤20
 ·have h20':¬ (20:Int)<(l.length:Int):=by omega
  have NO:Hid (¬ okP l→Fz R=1):=AC (fun k=>by rw [Dt HR.out k];rfl)
  go_enter Tryz.func94,Tryz.ntmps94
  go_wp2_with fail
  go_loopw [3,4,5,7,13] (fun AB LA ZE _ I wr=>∃ (i ab:Nat) (ze:Bool) (la:Int),i≤l.length∧ab≤281474976710656∧I=.int .i64 i∧AB=.int .u64 ab∧LA=.int .i64 la∧ZE=.bool ze∧Q w wr∧Hid (N3 l i ab ze la)) (fun _ _ _ _ I _=>l.length - (intOf I).toNat)
  case atStart=>exact⟨0,281474976710656,false,1099511627775,Nat.zero_le _,Nat.le_refl _,rfl,rfl,rfl,rfl,Q.refl _,AC (Ng l)⟩
  case round=>
   obtain⟨i,ab,ze,la,hil,hab,rfl,rfl,rfl,rfl,q,HI⟩:=hrel
   by_cases hlt:i<l.length
   ·obtain⟨a,rfl,ha,hat⟩:=HC.out i hlt
    obtain⟨c0,c1,c2,c3⟩:=hat.keep (by rw [AG];exact ha) fun _ hp=>q.cell hp
    clear hat
    have HP:=QX HI.out
    cases hm:B9 l[i] with
    | false=>
      have HV:=AC (NO.out (fun o=>by have:=(o.2 i).1 hlt;rw [hm] at this;simp at this))
      obtain⟨x,hx⟩:∃ x,x=l[i]:=⟨_,rfl⟩
      rw [← hx] at c0 c1 c2 c3 hm
      clear hx
      have C:=AC (fun b=>Bt x b)
      rw [hm,ver] at C
      clear hm
      go_wp2_with fail
      refine(C.out _).mono ?_
      rintro e w1 ⟨rfl,q1⟩
      go_wp2
      go_ret
      exact⟨by rw [HV.out];rfl,(q.alloc _).trans q1⟩
    | true=>
      by_cases htm:la<l[i].tm
      ·have HV:=AC (NO.out (Ni HI.out hlt hm htm))
       obtain⟨x,hx⟩:∃ x,x=l[i]:=⟨_,rfl⟩
       rw [← hx] at c0 c1 c2 c3 hm htm
       clear hx
       have C:=AC (fun b=>Bt x b)
       rw [hm,ver] at C
       clear hm
       go_wp2_with fail
       refine(C.out _).mono ?_
       rintro e w1 ⟨rfl,q1⟩
       obtain⟨b0,b1,b2,b3⟩:=Aa q1
       have q2:=(q.alloc _).trans q1
       go_wp2
       go_ret
       exact⟨by rw [HV.out];rfl,q2⟩
      ·by_cases hA:ab≤l[i].id
       ·have HV:=AC (NO.out (LH HI.out hlt hm hA))
        obtain⟨x,hx⟩:∃ x,x=l[i]:=⟨_,rfl⟩
        rw [← hx] at c0 c1 c2 c3 hm htm hA
        clear hx
        have hA':(ab:Int)≤(x.id:Int):=by omega
        have C:=AC (fun b=>Bt x b)
        rw [hm,ver] at C
        clear hm
        go_wp2_with fail
        refine(C.out _).mono ?_
        rintro e w1 ⟨rfl,q1⟩
        obtain⟨b0,b1,b2,b3⟩:=Aa q1
        have q2:=(q.alloc _).trans q1
        go_wp2
        go_ret
        exact⟨by rw [HV.out];rfl,q2⟩
       ·by_cases h0:l[i].id=0
        ·cases ze with
         | true=>
           have HV:=AC (NO.out (LF HI.out hlt h0 rfl))
           obtain⟨x,hx⟩:∃ x,x=l[i]:=⟨_,rfl⟩
           rw [← hx] at c0 c1 c2 c3 hm htm hA h0
           clear hx
           have hA':¬ (ab:Int)≤(x.id:Int):=by omega
           have C:=AC (fun b=>Bt x b)
           rw [hm,ver] at C
           have h0':((x.id:Int)==0)=true:=by simp [h0]
           clear hm h0
           go_wp2_with fail
           refine(C.out _).mono ?_
           rintro e w1 ⟨rfl,q1⟩
           obtain⟨b0,b1,b2,b3⟩:=Aa q1
           have q2:=(q.alloc _).trans q1
           go_wp2
           go_ret
           exact⟨by rw [HV.out];rfl,q2⟩
         | false=>
           have HN:=AC (LG HI.out hlt (H2 HI.out hlt hm htm hA (by simp)) h0)
           obtain⟨x,hx⟩:∃ x,x=l[i]:=⟨_,rfl⟩
           rw [← hx] at c0 c1 c2 c3 hm htm hA h0 HN
           clear hx
           have hA':¬ (ab:Int)≤(x.id:Int):=by omega
           have C:=AC (fun b=>Bt x b)
           rw [hm,ver] at C
           have h0':((x.id:Int)==0)=true:=by simp [h0]
           clear hm h0
           go_wp2_with fail
           refine(C.out _).mono ?_
           rintro e w1 ⟨rfl,q1⟩
           obtain⟨b0,b1,b2,b3⟩:=Aa q1
           have q2:=(q.alloc _).trans q1
           go_wp2
           go_roundw
           case rel=>exact⟨i+1,ab,true,x.tm,by omega,hab,by go_num,rfl,rfl,rfl,q2,HN⟩
           case measure=>simp [intOf];omega
        ·have HN:=AC (Nh HI.out hlt (H2 HI.out hlt hm htm hA (fun e=>h0 e.1)) h0 hA)
         obtain⟨x,hx⟩:∃ x,x=l[i]:=⟨_,rfl⟩
         rw [← hx] at c0 c1 c2 c3 hm htm hA h0 HN
         clear hx
         have hA':¬ (ab:Int)≤(x.id:Int):=by omega
         have C:=AC (fun b=>Bt x b)
         have hx48:x.id≤281474976710656:=by omega
         rw [hm,ver] at C
         have h0':((x.id:Int)==0)=false:=by
          have:¬ (x.id:Int)=0:=by omega
          simpa using this
         clear hm h0
         go_wp2_with fail
         refine(C.out _).mono ?_
         rintro e w1 ⟨rfl,q1⟩
         obtain⟨b0,b1,b2,b3⟩:=Aa q1
         have q2:=(q.alloc _).trans q1
         go_wp2
         go_roundw
         case rel=>exact⟨i+1,x.id,ze,x.tm,by omega,hx48,by go_num,rfl,rfl,rfl,q2,HN⟩
         case measure=>simp [intOf];omega
   ·have HV:Hid (Fz R=0):=AC (by
     have:=Nf HR.out (fun j hj=>HI.out.1 j (by omega))
     rw [this];simp [h20,Fz])
    go_wp2
    go_ret
    exact⟨by rw [HV.out];rfl,q⟩
 ·have h20':(20:Int)<(l.length:Int):=by omega
  have HV:Hid (Fz R=1):=AC (by rw [Dt HR.out (fun o=>h20 o.1)];rfl)
  go_enter Tryz.func94,Tryz.ntmps94
  go_wp2
  go_ret
  exact⟨by rw [HV.out];rfl,Q.refl _⟩
end
section
open Go.ChangeShapes Go.WideShapes Go.ChangeAt Go.RowKit
theorem Bh(l:List Ver)(v:Value)(w:World)(hR:okP l)(hl:l.length≤1000)(ht:Vers w w.heap.size v l):
  Calls Tryz.prog 94 #[v] w fun e w'=>e=.returned (.int .i64 0)∧Q w w':=Cp l v w true (.inl ⟨rfl,hR⟩) hl ht
theorem FH(l:List Ver)(v:Value)(w:World)(hR:¬ okP l)(hl:l.length≤1000)(ht:Vers w w.heap.size v l):
  Calls Tryz.prog 94 #[v] w fun e w'=>e=.returned (.int .i64 1)∧Q w w':=Cp l v w false (.inr ⟨rfl,hR⟩) hl ht
theorem Q6(l:List Ver)(v:Value)(i:Nat)(w:World)(hi:i<l.length)(hl:l.length≤1000)(ht:Vers w w.heap.size v l):
  Calls Tryz.prog 107 #[v,.int .i64 (i:Nat)] w fun e w'=>e=.returned (Iu (some l[i]))∧Q w w':=by
 obtain⟨A,c,rfl,-,-,-,hcells⟩:=ht
 obtain⟨a,rfl,ha,hat⟩:=hcells i hi
 clear hcells
 have q:=(Q.refl w).alloc (.cells #[.int .u64 0,.string ⟨#[]⟩,.bool false,.int .i64 0] 49)
 have AT:Hid (∀ o,At (w.alloc o) (a.add (i*4)) l[i]):=AC (fun o=>hat.keep (by rw [AG];exact ha) fun _ hp=>Below.cell ((Q.refl w).alloc o) hp)
 obtain⟨c0,c1,c2,c3⟩:=AT.out (.cells #[.int .u64 0,.string ⟨#[]⟩,.bool false,.int .i64 0] 49)
 clear hat AT
 obtain⟨x,hx⟩:∃ x,x=l[i]:=⟨_,rfl⟩
 rw [← hx] at c0 c1 c2 c3 ⊢
 clear hx
 have hab:(a.add (i*4)).block≠w.heap.size:=by rw [AG];omega
 cases hm:x.mark with
 | true=>
   rw [hm] at c2
   have HM:=AC hm
   clear hm
   go_enter Tryz.func107,Tryz.ntmps107
   go_wp2
   (try simp only [Exit.inBlock,Exit.then])
   refine bodyPost_ret (v:=.tuple #[.agg #[.int .u64 (x.id:Nat),.string x.data,.bool true,.int .i64 x.tm],.int .i64 13]) ?_ rfl ?_
   ·rw [results_cell_tmp rfl]
    go_simp
   ·exact⟨by simp [Iu,ver,HM.out],by first | exact(Q.refl w).alloc _ | exact Q.set (Q.set (Q.set (Q.set q (Nat.le_refl _) _) (Nat.le_refl _) _) (Nat.le_refl _) _) (Nat.le_refl _) _⟩
 | false=>
   rw [hm] at c2
   have HM:=AC hm
   clear hm
   go_enter Tryz.func107,Tryz.ntmps107
   go_wp2
   (try simp only [Exit.inBlock,Exit.then])
   refine bodyPost_ret (v:=.tuple #[.agg #[.int .u64 (x.id:Nat),.string x.data,.bool false,.int .i64 x.tm],.int .i64 0]) ?_ rfl ?_
   ·rw [results_cell_tmp rfl]
    go_simp
   ·exact⟨by simp [Iu,ver,HM.out],by first | exact(Q.refl w).alloc _ | exact Q.set (Q.set (Q.set (Q.set q (Nat.le_refl _) _) (Nat.le_refl _) _) (Nat.le_refl _) _) (Nat.le_refl _) _⟩
theorem Oc(v:Value)(w:World)(ht:Vers w w.heap.size v []):
  Calls Tryz.prog 107 #[v,.int .i64 0] w fun e w'=>e=.returned (Iu none)∧Q w w':=by
 obtain⟨A,c,rfl,-⟩:=ht
 simp only [List.length_nil]
 have q:=(Q.refl w).alloc (.cells #[.int .u64 0,.string ⟨#[]⟩,.bool false,.int .i64 0] 49)
 go_enter Tryz.func107,Tryz.ntmps107
 go_wp2
 (try simp only [Exit.inBlock,Exit.then])
 refine bodyPost_ret (v:=.tuple #[.agg #[.int .u64 0,.string ⟨#[]⟩,.bool false,.int .i64 0],.int .i64 4]) ?_ rfl ?_
 ·rw [results_cell_tmp rfl]
  go_simp
 ·exact⟨rfl,by first | exact(Q.refl w).alloc _ | exact Q.set (Q.set (Q.set (Q.set q (Nat.le_refl _) _) (Nat.le_refl _) _) (Nat.le_refl _) _) (Nat.le_refl _) _⟩
end
section
open Go.ChangeShapes Go.WideShapes Go.ChangeAt Go.RowKit
end
section
open Go.ChangeShapes Go.WideShapes Go.ChangeAt Go.RowKit
theorem E6(o:Option Ver):∃ (i:Nat) (d:ByteArray) (m:Bool) (t e:Int),Iu o=.tuple #[.agg #[.int .u64 (i:Nat),.string d,.bool m,.int .i64 t],.int .i64 e]:=by
 cases o with
 | none=>exact⟨0,⟨#[]⟩,false,0,4,rfl⟩
 | some x=>exact⟨x.id,x.data,x.mark,x.tm,(if x.mark then 13 else 0),rfl⟩
theorem Rn(l:List Ver)(v:Value)(w:World)(hR:okP l)(hl:l.length≤1000)(ht:Vers w w.heap.size v l):
  Calls Tryz.prog 67 #[v] w fun e w'=>e=.returned (Iu l.head?)∧Q w w':=by
 have C:Hid (∀ o,Calls Tryz.prog 94 #[v] (w.alloc o) fun e w'=>e=.returned (.int .i64 0)∧Q (w.alloc o) w'):=AC (fun o=>Bh l v (w.alloc o) hR hl (ht.on ((Q.refl w).alloc o)))
 obtain⟨fi,fd,fm,ft,fe,hfe⟩:=E6 l.head?
 have T:Hid (∀ b,Q w b→Calls Tryz.prog 107 #[v,.int .i64 0] b fun e w'=>e=.returned (.tuple #[.agg #[.int .u64 (fi:Nat),.string fd,.bool fm,.int .i64 ft],.int .i64 fe])∧Q b w'):=AC (fun b q=>by
  rw [← hfe]
  cases l with
  | nil=>exact Oc v b (ht.on q)
  | cons x r=>exact Q6 (x :: r) v 0 b (by simp) hl (ht.on q))
 have HE:=AC hfe
 clear hfe hR ht
 go_enter Tryz.func67,Tryz.ntmps67
 go_wp2_with fail
 refine(C.out _).mono ?_
 rintro e w1 ⟨rfl,q1⟩
 have q2:=((Q.refl w).alloc _).trans q1
 go_wp2_with fail
 refine(T.out _ q2).mono ?_
 rintro e w2 ⟨rfl,q3⟩
 obtain⟨z0,z1,z2,z3,f0,f1,f2,f3⟩:=Qq (q1.trans q3)
 have q:=q2.trans q3
 go_wp2
 (try simp only [Exit.inBlock,Exit.then])
 refine bodyPost_ret (v:=.tuple #[.agg #[.int .u64 (fi:Nat),.string fd,.bool fm,.int .i64 ft],.int .i64 fe]) ?_ rfl ?_
 ·rw [results_cell_tmp rfl]
  go_simp
 ·exact⟨by rw [HE.out],Q.set (Q.set (Q.set (Q.set q (Nat.le_refl _) _) (Nat.le_refl _) _) (Nat.le_refl _) _) (Nat.le_refl _) _⟩
end
section
open Go.ChangeShapes Go.WideShapes Go.ChangeAt Go.RowKit
theorem Vers.flat{w:World}{B:Nat}{a:Addr}{n c:Nat}{l:List Ver}(h:Vers w B (.slice (some a) n c) l):∀ j u,(l.flatMap Ag)[j]?=some u→w.cell? (a.add j)=some u:=by
 obtain⟨A,c',e,-,-,-,f⟩:=h
 injection e with e1 e2 e3
 intro j u hu
 obtain⟨hj,-⟩:=List.getElem?_eq_some_iff.1 hu
 rw [Ez] at hj
 have hk:j/4<l.length:=by omega
 obtain⟨a',ea,-,hat⟩:=f (j/4) hk
 rw [← e1] at ea
 injection ea with ea
 subst ea
 have hj2:j=j/4*4+j%4:=by omega
 rw [hj2,M9 l _ hk (by omega)] at hu
 have hadd:∀ r,0<r→a.add (j/4*4+r)=⟨(a.add (j/4*4)).block,(a.add (j/4*4)).off+r,none⟩:=by
  intro r hr
  rw [Ai _ (by omega),AG]
  unfold Addr.add
  split
  ·simp [*]
  ·simp [Nat.add_assoc]
 obtain⟨c0,c1,c2,c3⟩:=hat
 rw [hj2]
 have hr:j%4<4:=by omega
 match hm:j%4,hr with
 | 0,_=>rw [hm] at hu;simp [Ag] at hu;rw [Nat.add_zero,c0,← hu]
 | 1,_=>rw [hm] at hu;simp [Ag] at hu;rw [hadd 1 (by omega),c1,← hu]
 | 2,_=>rw [hm] at hu;simp [Ag] at hu;rw [hadd 2 (by omega),c2,← hu]
 | 3,_=>rw [hm] at hu;simp [Ag] at hu;rw [hadd 3 (by omega),c3,← hu]
theorem Ec(w:World)(base B:Nat)(t ty:TypeId)(htt:Tryz.prog.underlying t=some (.slice 49))(v:Value)(l m:List Ver){A:Option Addr}{n c:Nat}(h:OwnV base w v l)
  (g:Vers w B (.slice A n c) m) (hb:base≤w.heap.size) (hl:l.length+m.length≤4000) :
  ∃ v' w',(Builtin.append_ #[t,t] ty #[v,.slice A n c]).run Tryz.prog w=.ok v' w'∧OwnV base w' v' (l++m)∧w.grownBy w' v.ownBlock:=by
 obtain⟨i0,hi0,hz0,hz1,hz2⟩:=info_parts EP
 have hn:n=m.length:=by obtain⟨A',c',e,-⟩:=g;injection e
 subst hn
 cases A with
 | none=>
   have hm:m=[]:=by
    obtain⟨A',c',e,e0,ez,-,-⟩:=g
    injection e with e1 e2 e3
    have:=ez e1.symm
    exact List.length_eq_zero_iff.1 (by omega)
   subst hm
   have hc:c=0:=by
    obtain⟨A',c',e,e0,ez,-,-⟩:=g
    injection e with e1 e2 e3
    rw [e3];exact ez e1.symm
   subst hc
   exact⟨v,w,run_append_owned_none (P:=Tryz.prog) (w:=w) base t ty 49 i0 4 htt hi0 v _ _ h,by simpa using h,World.grownBy.refl w _⟩
 | some a=>
   obtain⟨v',w',h1,h2,h3,-⟩:=run_append_own (P:=Tryz.prog) w base t ty 49 i0 (.agg #[.int .u64 0,.string ⟨#[]⟩,.bool false,.int .i64 0]) 4 40 htt hi0 hz0 hz1 hz2 rfl (by decide) v l.length (l.flatMap Ag) h a m.length c (m.flatMap Ag) (Ez m) g.flat (Pt m) (by unfold maxLen;omega) (by omega) hb
   exact⟨v',w',h1,OwnV.onto (M:=m) h2 rfl,h3⟩
theorem AZ{ops:Array Oper}{rest:List Oper}{o:Oper}{a:Act}{Q:Exit→Act→World→Prop}(w:World)(hgd:o.guard=none)(s x:Operand)(t:TypeId)
  (htt:Tryz.prog.underlying t=some (.slice 49)) (ho:o.op=.call {callee:=.builtin .append,args:=#[s,x],argTypes:=#[t,t]})
  (base B:Nat) (v:Value) (l m:List Ver) {A:Option Addr} {n c:Nat} (hs:a.eval s=v) (hx:a.eval x=.slice A n c) (h:OwnV base w v l)
  (g:Vers w B (.slice A n c) m) (hb:base≤w.heap.size) (hl:l.length+m.length≤4000)
  (k:∀ v' w',OwnV base w' v' (l++m)→w.grownBy w' v.ownBlock→wpList Tryz.prog ops Q rest (a.put o.dst v') w'):wpList Tryz.prog ops Q (o :: rest) a w:=by
 refine wpList_plain hgd fun K hK=>?_
 obtain⟨v',w',h1,h2,h3⟩:=Ec w base B t o.type htt v l m h g hb hl
 unfold Oper.wp execOp
 simp only [ho,resolve,invoke,builtin,Sem.run_bind,Sem.run_pure,Result.andThen_ok,List.map_toArray,List.map_cons,List.map_nil,hs,hx,h1]
 exact hK _ _ (k v' w' h2 h3)
theorem Pq(n:Nat)(w:World)(hn:n≤4000):
  Calls Tryz.prog 184 #[.slice none 0 0,.int .i64 (n:Nat)] w fun e w'=>∃ v',e=.returned v'∧OwnV w.heap.size w' v' []∧Q w w':=by
 obtain⟨i0,hi,hz0,hz1,hz2⟩:=info_parts EP
 by_cases h0:n=0
 ·subst h0
  go_enter Tryz.func184,Tryz.ntmps184
  go_wp2
  go_ret
  exact⟨_,rfl,OwnV.nil _ _,Q.refl _⟩
 ·have h1:¬ (n:Int)<0:=by omega
  have h3:wrap64 ((n:Int) - 0)=(n:Int):=by unfold wrap64;omega
  have h4:(0:Int)<(n:Int):=by omega
  have hrz:∀ ty,(Builtin.append_ #[207,3] ty #[.slice none 0 0,.int .i64 (n:Int)]).run Tryz.prog w=_:=fun ty=>
   Lib.run_append_nil_zeros w 207 3 ty 49 i0 (.agg #[.int .u64 0,.string ⟨#[]⟩,.bool false,.int .i64 0]) .i64 .i64 Tryz.underlying207 Tryz.underlying3 hi hz0 n (by omega) (by omega) (by omega) (by rw [hz2];omega)
  have hG:=grownCap_le_maxLen w n 0 49 (by unfold maxLen;omega)
  have hGn:=grownCap_ge w n 0 49
  obtain⟨G,hGe⟩:∃ G,G=grownCap w n 0 49:=⟨_,rfl⟩
  rw [← hGe] at hrz hG hGn
  clear hGe
  have hG2:=hG
  unfold maxLen at hG2
  have own:∀ cur:Array Value,cur.size=G*4→OwnV w.heap.size (w.drew.alloc (.cells cur 49)) (.slice (some ⟨w.heap.size,0,none⟩) 0 G) []:=fun cur hc=>World.ownsRow_made w.drew cur G (Nat.le_refl _) hG hc
  have HO:=AC own
  clear own hi hz0 hz1 hz2
  go_enter Tryz.func184,Tryz.ntmps184
  go_wp2_with (at_builtin;refine Lib.wpList_append_run _ rfl _ _ _ _ rfl _ _ rfl rfl _ _ (hrz _) ?_)
  go_ret
  refine⟨_,rfl,HO.out _ ?_,((Q.refl w).drew).alloc _⟩
  simp [Builtin.zeroCells,Value.cells];omega
end
section
open Go.ChangeShapes Go.WideShapes Go.ChangeAt Go.RowKit
theorem Vers.shape{w:World}{B:Nat}{v:Value}{l:List Ver}(h:Vers w B v l):∃ A c,v=.slice A l.length c:=by
 obtain⟨A,c,e,-⟩:=h;exact⟨A,c,e⟩
theorem Dr(g:Nat)(v1 v2:Value)(l m:List Ver)(w:World)(h1:w.cell? ⟨g,0,none⟩=some v1)(h2:w.cell? ⟨g,1,none⟩=some v2)(hg:g<w.heap.size)
  (t1:Vers w w.heap.size v1 l) (t2:Vers w w.heap.size v2 m) (hl:l.length≤1000) (hm:m.length≤1000) :
  Calls Tryz.prog 179 #[.slice (some ⟨g,0,none⟩) 2 2] w fun e w'=>∃ v',e=.returned v'∧OwnV w.heap.size w' v' (l++m)∧Q w w':=by
 have T1:=AC t1
 have T2:=AC t2
 obtain⟨A1,c1,rfl⟩:=t1.shape
 obtain⟨A2,c2,rfl⟩:=t2.shape
 clear t1 t2
 obtain⟨ln,hln⟩:∃ n,l.length=n:=⟨_,rfl⟩
 obtain⟨mn,hmn⟩:∃ n,m.length=n:=⟨_,rfl⟩
 have HL:=AC hln
 have HM:=AC hmn
 rw [hln] at h1 T1 hl
 rw [hmn] at h2 T2 hm
 clear hln hmn
 have G:Hid (∀ b,Calls Tryz.prog 184 #[.slice none 0 0,.int .i64 ((ln:Int)+(mn:Int))] b fun e w'=>∃ v',e=.returned v'∧OwnV b.heap.size w' v' []∧Q b w'):=AC (fun b=>by
  have:=Pq (ln+mn) b (by omega)
  rw [Int.natCast_add] at this
  exact this)
 go_enter Tryz.func179,Tryz.ntmps179
 go_wp2_with fail
 go_loopw [3,5,11] (fun S _ I wr=>∃ k n:Nat,k≤2∧S=.int .i64 n∧I=.int .i64 k∧n=(if k=0 then 0 else if k=1 then ln else ln+mn)∧w=wr) (fun _ _ I _=>2 - (intOf I).toNat)
 case atStart=>exact⟨0,0,by omega,rfl,rfl,rfl,rfl⟩
 case round=>
  obtain⟨k,n,hk,rfl,rfl,hn,rfl⟩:=hrel
  rcases(show k=0∨k=1∨k=2 by omega) with rfl | rfl | rfl
  ·simp only [if_true] at hn
   subst hn
   go_wp2
   go_roundw
   case rel=>exact⟨1,ln,by omega,by first | rfl | simp,rfl,rfl,by first | trivial | rfl⟩
   case measure=>simp [intOf]
  ·have hn2:n=ln:=by simpa using hn
   subst hn2
   clear hn
   have hw:wrap64 ((n:Int)+(mn:Int))=(n:Int)+(mn:Int):=by unfold wrap64;omega
   have hp:¬ ((n:Int)+(mn:Int))<0:=by omega
   go_wp2
   go_roundw
   case rel=>exact⟨2,n+mn,by omega,by go_num,rfl,rfl,by first | trivial | rfl⟩
   case measure=>simp [intOf]
  ·have hn2:n=ln+mn:=by simpa using hn
   subst hn2
   clear hn
   rw [Int.natCast_add]
   go_wp2_with fail
   refine(G.out _).mono ?_
   rintro e w1 ⟨v',rfl,ho,q1⟩
   go_wp2_with fail
   go_loopw [6,8,27] (fun O _ I wr=>∃ k:Nat,k≤2∧I=.int .i64 k∧OwnV w.heap.size wr O (if k=0 then[] else if k=1 then l else l++m)∧Q w wr) (fun _ _ I _=>2 - (intOf I).toNat)
   case atStart=>exact⟨0,by omega,rfl,ho,q1⟩
   case round=>
    obtain⟨k,hk,rfl,ho,q⟩:=hrel
    clear q1
    have d1:wr.cell? ⟨g,0,none⟩=_:=(q.cell (p:=⟨g,0,none⟩) hg).trans h1
    have d2:wr.cell? ⟨g,1,none⟩=_:=(q.cell (p:=⟨g,1,none⟩) hg).trans h2
    rcases(show k=0∨k=1∨k=2 by omega) with rfl | rfl | rfl
    ·simp only [if_true] at ho
     have hs:=q.size
     have tb:=T1.out.below q
     have hll:=HL.out
     go_wp2_with (at_builtin;refine AZ _ rfl _ _ 207 Tryz.underlying207 rfl w.heap.size _ _ [] l rfl rfl ho tb hs ?ha ?_;(case ha=>(try simp);omega);intro v2 w2 o2 g2;have b2:=BA q hs ho g2;clear g2)
     go_roundw
     case rel=>exact⟨1,by omega,rfl,by simpa using o2,b2⟩
     case measure=>simp [intOf]
    ·have ho:OwnV w.heap.size wr u6 l:=by simpa using ho
     have hs:=q.size
     have tb:=T2.out.below q
     have hll:=HL.out
     have hmm:=HM.out
     go_wp2_with (at_builtin;refine AZ _ rfl _ _ 207 Tryz.underlying207 rfl w.heap.size _ _ l m rfl rfl ho tb hs ?ha ?_;(case ha=>(try simp);omega);intro v2 w2 o2 g2;have b2:=BA q hs ho g2;clear g2)
     go_roundw
     case rel=>exact⟨2,by omega,rfl,by simpa using o2,b2⟩
     case measure=>simp [intOf]
    ·have ho:OwnV w.heap.size wr u6 (l++m):=by simpa using ho
     go_wp2
     go_ret
     exact⟨_,rfl,ho,q⟩
end
end Go.Proofs.YtjjlbbfhmpbneaaGreat
