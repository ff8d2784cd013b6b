/-
  Contracts of the program's octets, mayNumber and Check of a bucket, of Empty and of New. Contracts of the program's mayNumber and Check of a bucket, of New and of Empty. Contracts of the program's Check of a bucket, of New and of Empty.
-/
import Derived.Test.YtjjlbbfhmpbneaaGreatLr
import Derived.Test.YtjjlbbfhmpbneaaGreatLm
import Derived.Test.YtjjlbbfhmpbneaaGreatLk
namespace Go.Proofs.YtjjlbbfhmpbneaaGreat
open Lib renaming hid → AC
set_option maxHeartbeats 16000000
set_option maxRecDepth 100000
set_option linter.unusedVariables false
set_option linter.unusedSimpArgs false
section
open Go.ChangeShapes Go.WideShapes Go.ChangeAt Go.RowKit Go.Shelf
def bcl(b:Bkt)(lv uv:Value):Array Value:=#[.string b.name,.int .i64 b.st,lv,uv,.int .u64 (b.last:Nat)]
theorem AD{w:World}{p:Nat}{b:Bkt}{lv uv:Value}(h:Bx w p 26 (bcl b lv uv)):
  w.cell? ⟨p,0,none⟩=some (.string b.name)∧w.cell? ⟨p,1,none⟩=some (.int .i64 b.st)∧w.cell? ⟨p,2,none⟩=some lv∧w.cell? ⟨p,3,none⟩=some uv∧w.cell? ⟨p,4,none⟩=some (.int .u64 (b.last:Nat)):=by
 refine⟨?_,?_,?_,?_,?_⟩ <;> (rw [h.cell];rfl)
theorem EK{l:List Ent}(h:By l):FQ l≤100000000000:=by
 have:=In h l.length
 rwa [List.take_length] at this
theorem EF{l:List Upl}(h:smL l):DD l≤5000000000:=by
 have:=GH h l.length
 rwa [List.take_length] at this
theorem Gp(b:Bkt)(lv uv:Value)(w:World)(hs:smE b.L)(hu:smL b.U)(hv:BktV w b lv uv):
  Calls Tryz.prog 49 #[bkt b lv uv] w fun e w'=>e=.returned (.int .i64 (Bz b:Nat))∧Q w w':=by
 have z1:=EK hs.1
 have z2:=EF hu
 have q0:=(Q.refl w).alloc (.cells (bcl b lv uv) 26)
 have Z:=AC (Bx.new w 26 (bcl b lv uv))
 have CO:=AC (H0 b.L lv (w.alloc (.cells (bcl b lv uv) 26)) hs.1 (hv.1.on q0))
 have OC:=AC fun d (q:Q w d)=>Ke b.U uv d hu (hv.2.on q)
 obtain⟨A1,c1,rfl⟩:=hv.1.form
 obtain⟨A2,c2,rfl⟩:=hv.2.form
 have HV:Hid (((FQ b.L:Nat):Int)+((DD b.U:Nat):Int)=((Bz b:Nat):Int)):=AC (by rw [Bz];omega)
 generalize FQ b.L=x at *
 generalize DD b.U=y at *
 generalize Bz b=o at *
 clear hs hu hv
 rw [bkt]
 go_enter Tryz.func49,Tryz.ntmps49
 go_wp2_with fail
 refine(CO.out).mono ?_
 rintro e w1 ⟨rfl,q1⟩
 obtain⟨-,-,-,e3,-⟩:=AD (Z.out.on q1)
 go_wp2_with fail
 refine(OC.out _ (q0.trans q1)).mono ?_
 rintro e w2 ⟨rfl,q2⟩
 go_wp2
 go_ret
 exact⟨by rw [← HV.out];rfl,(q0.trans q1).trans q2⟩
theorem NU:∀ args w,(callFunc 97 args).run Tryz.prog w=.ok (.enter 97 args) w:=enters_of Tryz.func97 (by kernel_rfl) rfl
theorem NT:∀ args w,(callFunc 99 args).run Tryz.prog w=.ok (.enter 99 args) w:=enters_of Tryz.func99 (by kernel_rfl) rfl
theorem JT(x:Ver)(top B:Nat)(w:World)(hc:w.cell? ⟨B,0,none⟩=some (.int .u64 (top:Nat)))(hB:B<w.heap.size):
  Calls Tryz.prog 97 #[ver x,.pointer (some ⟨B,0,none⟩)] w fun e w'=>e=.returned (.bool (decide (top<x.id)))∧Q w w':=by
 have HQ:=AC (fun o=>(Q.refl w).alloc o)
 have hne:B≠w.heap.size:=by omega
 rw [ver]
 by_cases h:top<x.id
 ·have h1:(top:Int)<(x.id:Int):=by omega
  have HV:Hid (decide (top<x.id)=true):=AC (by simp [h])
  clear h
  go_enter Tryz.func97,Tryz.ntmps97
  go_wp2
  go_ret
  exact⟨AE (by rw [HV.out]),HQ.out _⟩
 ·have h1:¬ (top:Int)<(x.id:Int):=by omega
  have HV:Hid (decide (top<x.id)=false):=AC (by simp [h])
  clear h
  go_enter Tryz.func97,Tryz.ntmps97
  go_wp2
  go_ret
  exact⟨AE (by rw [HV.out]),HQ.out _⟩
theorem JS(i top:Nat)(k:ByteArray)(u:Value)(hu:∃ A n c,u=.slice A n c)(B:Nat)(w:World)(hc:w.cell? ⟨B,4,none⟩=some (.int .u64 (top:Nat)))(hB:B<w.heap.size):
  Calls Tryz.prog 99 #[.agg #[.int .u64 (i:Nat),.string k,u],.pointer (some ⟨B,0,none⟩)] w fun e w'=>e=.returned (.bool (decide (top<i)))∧Q w w':=by
 have HQ:=AC (fun o=>(Q.refl w).alloc o)
 have hne:B≠w.heap.size:=by omega
 obtain⟨A,n,c,rfl⟩:=hu
 by_cases h:top<i
 ·have h1:(top:Int)<(i:Int):=by omega
  have HV:Hid (decide (top<i)=true):=AC (by simp [h])
  clear h
  go_enter Tryz.func99,Tryz.ntmps99
  go_wp2
  go_ret
  exact⟨AE (by rw [HV.out]),HQ.out _⟩
 ·have h1:¬ (top:Int)<(i:Int):=by omega
  have HV:Hid (decide (top<i)=false):=AC (by simp [h])
  clear h
  go_enter Tryz.func99,Tryz.ntmps99
  go_wp2
  go_ret
  exact⟨AE (by rw [HV.out]),HQ.out _⟩
theorem Fc(g B:Nat)(f:Nat→Bool)(l:List Upl)(v:Value)(w:World)(eg:∀ args w,(callFunc g args).run Tryz.prog w=.ok (.enter g args) w)
  (hp:∀ i k A n c b,Q w b→Calls Tryz.prog g #[.agg #[.int .u64 (i:Nat),.string k,.slice A n c],.pointer (some ⟨B,0,none⟩)] b fun e w'=>e=.returned (.bool (f i))∧Q b w')
  (hl:l.length≤1000) (ht:Upls w w.heap.size v l) :
  Calls Tryz.prog 136 #[v,.func (.func g) #[] #[.pointer (some ⟨B,0,none⟩)]] w fun e w'=>e=.returned (.int .i64 (Gu (fun x:Upl=>f x.id) l))∧Q w w':=by
 have HT:=AC ht
 have HP:=AC hp
 obtain⟨A,c,rfl⟩:=ht.form
 clear ht hp
 go_enter Tryz.func136,Tryz.ntmps136
 go_wp2_with fail
 go_loopw [5,8] (fun _ I wr=>∃ i:Nat,i≤l.length∧I=.int .i64 i∧Q w wr∧Hid (∀ j (hj:j<i) (hl:j<l.length),f l[j].id=false)) (fun _ I _=>l.length - (intOf I).toNat)
 case atStart=>exact⟨0,Nat.zero_le _,rfl,Q.refl _,AC (fun j h=>by omega)⟩
 case round=>
  obtain⟨i,hil,rfl,q,HK⟩:=hrel
  by_cases hlt:i<l.length
  ·obtain⟨a,c',hv,ha,A2,c2,hvs,hat⟩:=HT.out.pick i hlt
   injection hv with e1 e2 e3
   subst e1 e3
   obtain⟨d0,d1,d2⟩:=hat _ q
   have C:=HP.out l[i].id l[i].key A2 l[i].L.length c2 wr q
   cases hpx:f l[i].id with
   | true=>
     have HV:=AC (Jc (p:=fun x:Upl=>f x.id) hlt hpx HK.out)
     rw [hpx] at C
     obtain⟨x,hx⟩:∃ x,x=l[i]:=⟨_,rfl⟩
     rw [← hx] at d0 d1 d2 C
     have C:=AC C
     clear hx hpx hat hvs
     go_wp2_with (go_at_fn g;refine(C.out).mono ?_;rintro e w1 ⟨rfl,q1⟩)
     go_ret
     exact⟨by rw [HV.out];rfl,q.trans q1⟩
   | false=>
     have HK2:Hid (∀ j (hj:j<i+1) (hl:j<l.length),f l[j].id=false):=AC (fun j hj hl=>by
      by_cases e:j=i
      ·subst e;exact hpx
      ·exact HK.out j (by omega) hl)
     rw [hpx] at C
     obtain⟨x,hx⟩:∃ x,x=l[i]:=⟨_,rfl⟩
     rw [← hx] at d0 d1 d2 C
     have C:=AC C
     clear hx hpx hat hvs
     go_wp2_with (go_at_fn g;refine(C.out).mono ?_;rintro e w1 ⟨rfl,q1⟩)
     go_roundw
     case rel=>exact⟨i+1,by omega,by go_num,q.trans q1,HK2⟩
     case measure=>simp [intOf];omega
  ·have HV:=AC (Hr (p:=fun x:Upl=>f x.id) (l:=l) (fun j hl=>HK.out j (by omega) hl))
   go_wp2
   go_ret
   exact⟨by rw [HV.out];rfl,q⟩
theorem My{α:Type}(p:α→Bool)(l:List α):0≤Gu p l↔l.any p=true:=by
 unfold Gu
 cases h:l.findIdx? p with
 | some i=>
   obtain⟨hi,hp,-⟩:=List.findIdx?_eq_some_iff_getElem.1 h
   refine⟨fun _=>List.any_eq_true.2 ⟨_,List.getElem_mem hi,hp⟩,fun _=>?_⟩
   show(0:Int)≤(i:Nat)
   omega
 | none=>
   rw [List.findIdx?_eq_none_iff] at h
   refine⟨fun k=>by simp at k,fun k=>?_⟩
   obtain⟨x,hx,hp⟩:=List.any_eq_true.1 k
   rw [h x hx] at hp;simp at hp
theorem Dc(g B:Nat)(f:Nat→Bool)(l:List Upl)(v:Value)(w:World)(eg:∀ args w,(callFunc g args).run Tryz.prog w=.ok (.enter g args) w)
  (hp:∀ i k A n c b,Q w b→Calls Tryz.prog g #[.agg #[.int .u64 (i:Nat),.string k,.slice A n c],.pointer (some ⟨B,0,none⟩)] b fun e w'=>e=.returned (.bool (f i))∧Q b w')
  (hl:l.length≤1000) (ht:Upls w w.heap.size v l) :
  Calls Tryz.prog 98 #[v,.func (.func g) #[] #[.pointer (some ⟨B,0,none⟩)]] w fun e w'=>e=.returned (.bool (l.any fun x=>f x.id))∧Q w w':=by
 have C:=AC (Fc g B f l v w eg hp hl ht)
 have HS:=My (fun x:Upl=>f x.id) l
 clear hp
 cases h:l.any (fun x=>f x.id) with
 | true=>
   have k:0≤Gu (fun x:Upl=>f x.id) l:=HS.2 h
   clear HS
   generalize Gu (fun x:Upl=>f x.id) l=r at C k
   go_enter Tryz.func98,Tryz.ntmps98
   go_wp2_with fail
   refine(C.out).mono ?_
   rintro e w1 ⟨rfl,q1⟩
   go_wp2
   go_ret
   exact⟨by first | rfl | simp [k],q1⟩
 | false=>
   have k:¬ 0≤Gu (fun x:Upl=>f x.id) l:=fun e=>by rw [HS.1 e] at h;simp at h
   clear HS
   generalize Gu (fun x:Upl=>f x.id) l=r at C k
   go_enter Tryz.func98,Tryz.ntmps98
   go_wp2_with fail
   refine(C.out).mono ?_
   rintro e w1 ⟨rfl,q1⟩
   go_wp2
   go_ret
   exact⟨by first | rfl | simp [k],q1⟩
end
section
open Go.ChangeShapes Go.WideShapes Go.ChangeAt Go.RowKit Go.Shelf
theorem Gr{l:List Ent}{m:Nat}: B8 l m↔∀ j (h:j<l.length),(l[j].L.any fun x=>decide (m<x.id))=false:=by
 refine⟨fun h j hj=>?_,fun h e he x hx=>?_⟩
 ·rw [List.any_eq_false]
  intro x hx
  have:=h _ (List.getElem_mem hj) x hx
  simpa using this
 ·obtain⟨j,hj,rfl⟩:=List.getElem_of_mem he
  have:=h j hj
  rw [List.any_eq_false] at this
  have:=this x hx
  simpa using this
theorem Cz{l:List Upl}{m:Nat}: Fo l m↔(l.any fun x=>decide (m<x.id))=false:=by
 rw [List.any_eq_false]
 refine⟨fun h x hx=>by have:=h x hx;simpa using this,fun h x hx=>by have:=h x hx;simpa using this⟩
theorem Kf(b:Bkt)(lv uv:Value)(w:World)(R:Bool)(hR:Chk (PQ b) R)(hs:smE b.L)(hu:smL b.U)(hv:BktV w b lv uv):
  Calls Tryz.prog 48 #[bkt b lv uv] w fun e w'=>e=.returned (.bool R)∧Q w w':=by
 have hmf:=@HMF
 have HV:=AC hv
 have HS:=AC hs
 have HR:=AC hR
 have hl:=hs.1.1
 have hul:=hu.1
 by_cases hst:b.st=0
 ·have HTOP:Hid (EE b=0):=AC (by simp [EE,hst])
  obtain⟨A1,c1,rfl⟩:=hv.1.form
  obtain⟨A2,c2,rfl⟩:=hv.2.form
  have Z:=AC ((Bx.new w 26 (bcl b (.slice A1 b.L.length c1) (.slice A2 b.U.length c2))).alloc (.cells #[.int .u64 0] 24))
  have Y:=Bx.new (w.alloc (.cells (bcl b (.slice A1 b.L.length c1) (.slice A2 b.U.length c2)) 26)) 24 #[.int .u64 0]
  simp only [World.size_alloc] at Y
  have Y:=AC Y
  have q0:Q w ((w.alloc (.cells (bcl b (.slice A1 b.L.length c1) (.slice A2 b.U.length c2)) 26)).alloc (.cells #[.int .u64 0] 24)):=((Q.refl w).alloc _).alloc _
  have CF:Hid (∀ d,Q ((w.alloc (.cells (bcl b (.slice A1 b.L.length c1) (.slice A2 b.U.length c2)) 26)).alloc (.cells #[.int .u64 0] 24)) d→∀ (L:List Ver) (A:Option Addr) (c:Nat),L.length≤1000→Vers d d.heap.size (.slice A L.length c) L→Calls Tryz.prog 96 #[.slice A L.length c,.func (.func 97) #[] #[.pointer (some ⟨w.heap.size+1,0,none⟩)]] d fun e w'=>e=.returned (.bool (L.any fun x=>decide (0<x.id)))∧Q d w'):=AC fun d q L A c h1 h2=>
   Aq _ (w.heap.size+1) (fun x=>decide (0<x.id)) L _ d NU (fun x b' q'=>JT x 0 (w.heap.size+1) b' (by rw [(Y.out.on (q.trans q')).cell];rfl) (Y.out.on (q.trans q')).lt) h1 h2
  have CU:Hid (∀ d,Q ((w.alloc (.cells (bcl b (.slice A1 b.L.length c1) (.slice A2 b.U.length c2)) 26)).alloc (.cells #[.int .u64 0] 24)) d→Calls Tryz.prog 98 #[.slice A2 b.U.length c2,.func (.func 99) #[] #[.pointer (some ⟨w.heap.size,0,none⟩)]] d fun e w'=>e=.returned (.bool (b.U.any fun x=>decide (b.last<x.id)))∧Q d w'):=AC fun d q=>
   Dc _ w.heap.size (fun i=>decide (b.last<i)) b.U _ d NT (fun i k A n c b' q'=>JS i b.last k _ ⟨A,n,c,rfl⟩ w.heap.size b' (AD (Z.out.on (q.trans q'))).2.2.2.2 (Z.out.on (q.trans q')).lt) hul (HV.out.2.on (q0.trans q))
  have hb0:(b.st==0)=true:=by simpa using hst
  clear hst
  clear hs hu hv hR hul
  rw [bkt]
  go_enter Tryz.func48,Tryz.ntmps48
  go_wp2_with fail
  go_loopw [14] (fun I wr=>∃ i:Nat,i≤b.L.length∧I=.int .i64 i∧Q ((w.alloc (.cells (bcl b (.slice A1 b.L.length c1) (.slice A2 b.U.length c2)) 26)).alloc (.cells #[.int .u64 0] 24)) wr∧Hid (∀ j (h:j<i) (hl:j<b.L.length),(b.L[j].L.any fun x=>decide (0<x.id))=false)) (fun I _=>b.L.length - (intOf I).toNat)
  case atStart=>exact⟨0,Nat.zero_le _,rfl,Q.refl _,AC (fun j h=>by omega)⟩
  case round=>
   obtain⟨i,hil,rfl,q,HK⟩:=hrel
   by_cases hlt:i<b.L.length
   ·obtain⟨a,c',hv,ha,A3,c3,hvs,hat⟩:=HV.out.1.pick i hlt
    injection hv with e1 e2 e3
    subst e1 e3
    obtain⟨d0,d1⟩:=hat _ (q0.trans q)
    have C:=CF.out _ (q.alloc (.cells #[.string b.L[i].key,.slice A3 b.L[i].L.length c3] 79)) b.L[i].L A3 c3 (HS.out.1.2 _ (List.getElem_mem hlt)).2.1 (hvs.on ((q0.trans q).alloc (.cells #[.string b.L[i].key,.slice A3 b.L[i].L.length c3] 79)))
    cases hpx:(b.L[i].L.any fun x=>decide (0<x.id)) with
    | true=>
      have HX:Hid (R=false):=AC (by
       rcases HR.out with⟨rfl,h⟩ | ⟨rfl,-⟩
       ·have:=Gr.1 h.1 i hlt
        rw [HTOP.out,hpx] at this
        simp at this
       ·rfl)
      rw [hpx] at C
      obtain⟨x,hx⟩:∃ x,x=b.L[i]:=⟨_,rfl⟩
      rw [← hx] at d0 d1 C
      have C:=AC C
      clear hx hpx hat hvs
      go_wp2_with fail
      refine(C.out).mono ?_
      rintro e w1 ⟨rfl,q1⟩
      go_wp2
      go_ret
      exact⟨by rw [HX.out];rfl,((q0.trans q).alloc _).trans q1⟩
    | false=>
      have HK2:Hid (∀ j (h:j<i+1) (hl:j<b.L.length),(b.L[j].L.any fun x=>decide (0<x.id))=false):=AC (fun j hj hl=>by
       by_cases e:j=i
       ·subst e;exact hpx
       ·exact HK.out j (by omega) hl)
      rw [hpx] at C
      obtain⟨x,hx⟩:∃ x,x=b.L[i]:=⟨_,rfl⟩
      rw [← hx] at d0 d1 C
      have C:=AC C
      have hilt:(i:Int)<(b.L.length:Int):=by omega
      clear hx hpx hat hvs
      go_wp2_with fail
      refine(C.out).mono ?_
      rintro e w1 ⟨rfl,q1⟩
      go_wp2
      go_roundw
      case rel=>exact⟨i+1,by omega,by go_num,(q.alloc _).trans q1,HK2⟩
      case measure=>simp [intOf];omega
   ·have HX:Hid (R = !(b.U.any fun x=>decide (b.last<x.id))):=AC (by
     have hE:B8 b.L (EE b):=Gr.2 fun j h=>by rw [HTOP.out];exact HK.out j (by omega) h
     rcases HR.out with⟨rfl,h⟩ | ⟨rfl,h⟩
     ·rw [Cz.1 h.2];rfl
     ·cases hx:(b.U.any fun x=>decide (b.last<x.id)) with
      | true=>rfl
      | false=>exact absurd ⟨hE,Cz.2 hx⟩ h)
    obtain⟨-,-,-,e3,-⟩:=AD (Z.out.on q)
    have C:=AC (CU.out _ q)
    have hilt:¬ (i:Int)<(b.L.length:Int):=by omega
    generalize (b.U.any fun x=>decide (b.last<x.id))=r at C HX
    go_wp2_with fail
    refine(C.out).mono ?_
    rintro e w1 ⟨rfl,q1⟩
    go_wp2
    go_ret
    exact⟨by rw [HX.out];rfl,(q0.trans q).trans q1⟩
 ·have HTOP:Hid (EE b=b.last):=AC (by simp [EE,hst])
  obtain⟨A1,c1,rfl⟩:=hv.1.form
  obtain⟨A2,c2,rfl⟩:=hv.2.form
  have Z:=AC ((Bx.new w 26 (bcl b (.slice A1 b.L.length c1) (.slice A2 b.U.length c2))).alloc (.cells #[.int .u64 (b.last:Nat)] 24))
  have Y:=Bx.new (w.alloc (.cells (bcl b (.slice A1 b.L.length c1) (.slice A2 b.U.length c2)) 26)) 24 #[.int .u64 (b.last:Nat)]
  simp only [World.size_alloc] at Y
  have Y:=AC Y
  have q0:Q w ((w.alloc (.cells (bcl b (.slice A1 b.L.length c1) (.slice A2 b.U.length c2)) 26)).alloc (.cells #[.int .u64 (b.last:Nat)] 24)):=((Q.refl w).alloc _).alloc _
  have CF:Hid (∀ d,Q ((w.alloc (.cells (bcl b (.slice A1 b.L.length c1) (.slice A2 b.U.length c2)) 26)).alloc (.cells #[.int .u64 (b.last:Nat)] 24)) d→∀ (L:List Ver) (A:Option Addr) (c:Nat),L.length≤1000→Vers d d.heap.size (.slice A L.length c) L→Calls Tryz.prog 96 #[.slice A L.length c,.func (.func 97) #[] #[.pointer (some ⟨w.heap.size+1,0,none⟩)]] d fun e w'=>e=.returned (.bool (L.any fun x=>decide (b.last<x.id)))∧Q d w'):=AC fun d q L A c h1 h2=>
   Aq _ (w.heap.size+1) (fun x=>decide (b.last<x.id)) L _ d NU (fun x b' q'=>JT x b.last (w.heap.size+1) b' (by rw [(Y.out.on (q.trans q')).cell];rfl) (Y.out.on (q.trans q')).lt) h1 h2
  have CU:Hid (∀ d,Q ((w.alloc (.cells (bcl b (.slice A1 b.L.length c1) (.slice A2 b.U.length c2)) 26)).alloc (.cells #[.int .u64 (b.last:Nat)] 24)) d→Calls Tryz.prog 98 #[.slice A2 b.U.length c2,.func (.func 99) #[] #[.pointer (some ⟨w.heap.size,0,none⟩)]] d fun e w'=>e=.returned (.bool (b.U.any fun x=>decide (b.last<x.id)))∧Q d w'):=AC fun d q=>
   Dc _ w.heap.size (fun i=>decide (b.last<i)) b.U _ d NT (fun i k A n c b' q'=>JS i b.last k _ ⟨A,n,c,rfl⟩ w.heap.size b' (AD (Z.out.on (q.trans q'))).2.2.2.2 (Z.out.on (q.trans q')).lt) hul (HV.out.2.on (q0.trans q))
  have hb1:(b.st==0)=false:=by simpa using hst
  clear hs hu hv hR hul
  rw [bkt]
  go_enter Tryz.func48,Tryz.ntmps48
  go_wp2_with fail
  go_loopw [14] (fun I wr=>∃ i:Nat,i≤b.L.length∧I=.int .i64 i∧Q ((w.alloc (.cells (bcl b (.slice A1 b.L.length c1) (.slice A2 b.U.length c2)) 26)).alloc (.cells #[.int .u64 (b.last:Nat)] 24)) wr∧Hid (∀ j (h:j<i) (hl:j<b.L.length),(b.L[j].L.any fun x=>decide (b.last<x.id))=false)) (fun I _=>b.L.length - (intOf I).toNat)
  case atStart=>exact⟨0,Nat.zero_le _,rfl,Q.refl _,AC (fun j h=>by omega)⟩
  case round=>
   obtain⟨i,hil,rfl,q,HK⟩:=hrel
   by_cases hlt:i<b.L.length
   ·obtain⟨a,c',hv,ha,A3,c3,hvs,hat⟩:=HV.out.1.pick i hlt
    injection hv with e1 e2 e3
    subst e1 e3
    obtain⟨d0,d1⟩:=hat _ (q0.trans q)
    have C:=CF.out _ (q.alloc (.cells #[.string b.L[i].key,.slice A3 b.L[i].L.length c3] 79)) b.L[i].L A3 c3 (HS.out.1.2 _ (List.getElem_mem hlt)).2.1 (hvs.on ((q0.trans q).alloc (.cells #[.string b.L[i].key,.slice A3 b.L[i].L.length c3] 79)))
    cases hpx:(b.L[i].L.any fun x=>decide (b.last<x.id)) with
    | true=>
      have HX:Hid (R=false):=AC (by
       rcases HR.out with⟨rfl,h⟩ | ⟨rfl,-⟩
       ·have:=Gr.1 h.1 i hlt
        rw [HTOP.out,hpx] at this
        simp at this
       ·rfl)
      rw [hpx] at C
      obtain⟨x,hx⟩:∃ x,x=b.L[i]:=⟨_,rfl⟩
      rw [← hx] at d0 d1 C
      have C:=AC C
      clear hx hpx hat hvs
      go_wp2_with fail
      refine(C.out).mono ?_
      rintro e w1 ⟨rfl,q1⟩
      go_wp2
      go_ret
      exact⟨by rw [HX.out];rfl,((q0.trans q).alloc _).trans q1⟩
    | false=>
      have HK2:Hid (∀ j (h:j<i+1) (hl:j<b.L.length),(b.L[j].L.any fun x=>decide (b.last<x.id))=false):=AC (fun j hj hl=>by
       by_cases e:j=i
       ·subst e;exact hpx
       ·exact HK.out j (by omega) hl)
      rw [hpx] at C
      obtain⟨x,hx⟩:∃ x,x=b.L[i]:=⟨_,rfl⟩
      rw [← hx] at d0 d1 C
      have C:=AC C
      have hilt:(i:Int)<(b.L.length:Int):=by omega
      clear hx hpx hat hvs
      go_wp2_with fail
      refine(C.out).mono ?_
      rintro e w1 ⟨rfl,q1⟩
      go_wp2
      go_roundw
      case rel=>exact⟨i+1,by omega,by go_num,(q.alloc _).trans q1,HK2⟩
      case measure=>simp [intOf];omega
   ·have HX:Hid (R = !(b.U.any fun x=>decide (b.last<x.id))):=AC (by
     have hE:B8 b.L (EE b):=Gr.2 fun j h=>by rw [HTOP.out];exact HK.out j (by omega) h
     rcases HR.out with⟨rfl,h⟩ | ⟨rfl,h⟩
     ·rw [Cz.1 h.2];rfl
     ·cases hx:(b.U.any fun x=>decide (b.last<x.id)) with
      | true=>rfl
      | false=>exact absurd ⟨hE,Cz.2 hx⟩ h)
    obtain⟨-,-,-,e3,-⟩:=AD (Z.out.on q)
    have C:=AC (CU.out _ q)
    have hilt:¬ (i:Int)<(b.L.length:Int):=by omega
    generalize (b.U.any fun x=>decide (b.last<x.id))=r at C HX
    go_wp2_with fail
    refine(C.out).mono ?_
    rintro e w1 ⟨rfl,q1⟩
    go_wp2
    go_ret
    exact⟨by rw [HX.out];rfl,(q0.trans q).trans q1⟩
end
section
open Go.ChangeShapes Go.WideShapes Go.ChangeAt Go.RowKit Go.Shelf
theorem Ja{s:Int}: Hp s=true↔0≤s∧s≤2:=by
 simp only [Hp,Bool.and_eq_true,decide_eq_true_eq]
theorem BN(b:Bkt)(lv uv:Value)(w:World)(R:Bool)(hR:Chk (okB b) R)(hn:b.name.size≤1000)(hs:smE b.L)(hu:smL b.U)(hv:BktV w b lv uv):
  Calls Tryz.prog 15 #[bkt b lv uv] w fun e w'=>e=.returned (.int .i64 (Fz R))∧Q w w':=by
 have q0:=(Q.refl w).alloc (.cells (bcl b lv uv) 26)
 have Z:=AC (Bx.new w 26 (bcl b lv uv))
 have HV:=AC hv
 have HR:=AC hR
 have BK:=AC fun d=>F2 b.name d hn
 have IS:=AC fun d=>Ew d b.st
 obtain⟨R4,h4⟩:=Gk b.L
 obtain⟨R5,h5⟩:=Bw (Ab b.U)
 obtain⟨R6,h6⟩:=Bw (PQ b)
 have IC:=AC fun d (q:Q w d)=>Du b.L lv d R4 h4 hs.1 (hv.1.on q)
 have PC:=AC fun d (q:Q w d)=>CJ b.U uv d R5 h5 hu (hv.2.on q)
 have MN:=AC fun d (q:Q w d)=>Kf b lv uv d R6 h6 hs hu (hv.on q)
 have OC:=AC fun d (q:Q w d)=>Gp b lv uv d hs hu (hv.on q)
 obtain⟨A1,c1,rfl⟩:=hv.1.form
 obtain⟨A2,c2,rfl⟩:=hv.2.form
 rw [bkt] at MN OC
 rw [bkt]
 have NO:Hid (¬ okB b→R=false):=AC fun h=>by
  rcases HR.out with⟨-,k⟩ | ⟨rfl,-⟩
  ·exact absurd k h
  ·rfl
 have H4:=AC h4
 have H5:=AC h5
 have H6:=AC h6
 have CELL:Hid (∀ d,Q (w.alloc (.cells (bcl b (.slice A1 b.L.length c1) (.slice A2 b.U.length c2)) 26)) d→d.cell? ⟨w.heap.size,0,none⟩=some (.string b.name)∧d.cell? ⟨w.heap.size,1,none⟩=some (.int .i64 b.st)∧d.cell? ⟨w.heap.size,2,none⟩=some (.slice A1 b.L.length c1)∧d.cell? ⟨w.heap.size,3,none⟩=some (.slice A2 b.U.length c2)∧d.cell? ⟨w.heap.size,4,none⟩=some (.int .u64 (b.last:Nat))):=AC fun d q=>AD (Z.out.on q)
 clear hn hs hu hv hR h4 h5 h6
 cases e1:Al b.name with
 | false=>
   have HX:=AC (NO.out fun h=>by rw [h.1] at e1;simp at e1)
   rw [e1] at BK
   clear e1
   go_enter Tryz.func15,Tryz.ntmps15
   go_wp2_with fail
   refine(BK.out _).mono ?_
   rintro e w1 ⟨rfl,q1⟩
   obtain⟨c0,c1',c2',c3',c4'⟩:=CELL.out _ q1
   go_wp2
   go_ret
   exact⟨by rw [HX.out];rfl,q0.trans q1⟩
 | true=>
 rw [e1] at BK
 cases e2:Hp b.st with
 | false=>
   have HX:=AC (NO.out fun h=>by rw [Ja.2 h.2.1] at e2;simp at e2)
   rw [e2] at IS
   clear e1 e2
   go_enter Tryz.func15,Tryz.ntmps15
   go_wp2_with fail
   refine(BK.out _).mono ?_
   rintro e w1 ⟨rfl,q1⟩
   obtain⟨c0,c1',c2',c3',c4'⟩:=CELL.out _ q1
   go_wp2_with fail
   refine(IS.out _).mono ?_
   rintro e w2 ⟨rfl,rfl⟩
   go_wp2
   go_ret
   exact⟨by rw [HX.out];rfl,q0.trans q1⟩
 | true=>
 rw [e2] at IS
 by_cases e3:b.last≤281474976710655
 case neg=>
  have HX:=AC (NO.out fun h=>e3 h.2.2.1)
  have j3:(281474976710655:Int)<(b.last:Int):=by omega
  clear e1 e2 e3
  go_enter Tryz.func15,Tryz.ntmps15
  go_wp2_with fail
  refine(BK.out _).mono ?_
  rintro e w1 ⟨rfl,q1⟩
  obtain⟨c0,c1',c2',c3',c4'⟩:=CELL.out _ q1
  go_wp2_with fail
  refine(IS.out _).mono ?_
  rintro e w2 ⟨rfl,rfl⟩
  go_wp2
  go_ret
  exact⟨by rw [HX.out];rfl,q0.trans q1⟩
 have j3:¬ (281474976710655:Int)<(b.last:Int):=by omega
 have E3:=AC e3
 clear e3
 cases R4 with
 | false=>
   have HX:=AC (NO.out fun h=>by rcases H4.out with⟨k,-⟩ | ⟨-,k⟩;simp at k;exact k h.2.2.2.1)
   clear e1 e2
   go_enter Tryz.func15,Tryz.ntmps15
   go_wp2_with fail
   refine(BK.out _).mono ?_
   rintro e w1 ⟨rfl,q1⟩
   obtain⟨c0,c1',c2',c3',c4'⟩:=CELL.out _ q1
   go_wp2_with fail
   refine(IS.out _).mono ?_
   rintro e w2 ⟨rfl,rfl⟩
   go_wp2_with fail
   refine(IC.out _ (q0.trans q1)).mono ?_
   rintro e w3 ⟨rfl,q3⟩
   obtain⟨c0,c1',c2',c3',c4'⟩:=CELL.out _ (q1.trans q3)
   have qz3:=(q0.trans q1).trans q3
   go_wp2
   go_ret
   exact⟨by rw [HX.out];rfl,qz3⟩
 | true=>
 cases R5 with
 | false=>
   have HX:=AC (NO.out fun h=>by rcases H5.out with⟨k,-⟩ | ⟨-,k⟩;simp at k;exact k h.2.2.2.2.1)
   clear e1 e2
   go_enter Tryz.func15,Tryz.ntmps15
   go_wp2_with fail
   refine(BK.out _).mono ?_
   rintro e w1 ⟨rfl,q1⟩
   obtain⟨c0,c1',c2',c3',c4'⟩:=CELL.out _ q1
   go_wp2_with fail
   refine(IS.out _).mono ?_
   rintro e w2 ⟨rfl,rfl⟩
   go_wp2_with fail
   refine(IC.out _ (q0.trans q1)).mono ?_
   rintro e w3 ⟨rfl,q3⟩
   obtain⟨c0,c1',c2',c3',c4'⟩:=CELL.out _ (q1.trans q3)
   have qz3:=(q0.trans q1).trans q3
   go_wp2_with fail
   refine(PC.out _ qz3).mono ?_
   rintro e w4 ⟨rfl,q4⟩
   obtain⟨c0,c1',c2',c3',c4'⟩:=CELL.out _ ((q1.trans q3).trans q4)
   have qz4:=qz3.trans q4
   go_wp2
   go_ret
   exact⟨by rw [HX.out];rfl,qz4⟩
 | true=>
 cases R6 with
 | false=>
   have HX:=AC (NO.out fun h=>by rcases H6.out with⟨k,-⟩ | ⟨-,k⟩;simp at k;exact k h.2.2.2.2.2.1)
   clear e1 e2
   go_enter Tryz.func15,Tryz.ntmps15
   go_wp2_with fail
   refine(BK.out _).mono ?_
   rintro e w1 ⟨rfl,q1⟩
   obtain⟨c0,c1',c2',c3',c4'⟩:=CELL.out _ q1
   go_wp2_with fail
   refine(IS.out _).mono ?_
   rintro e w2 ⟨rfl,rfl⟩
   go_wp2_with fail
   refine(IC.out _ (q0.trans q1)).mono ?_
   rintro e w3 ⟨rfl,q3⟩
   obtain⟨c0,c1',c2',c3',c4'⟩:=CELL.out _ (q1.trans q3)
   have qz3:=(q0.trans q1).trans q3
   go_wp2_with fail
   refine(PC.out _ qz3).mono ?_
   rintro e w4 ⟨rfl,q4⟩
   obtain⟨c0,c1',c2',c3',c4'⟩:=CELL.out _ ((q1.trans q3).trans q4)
   have qz4:=qz3.trans q4
   go_wp2_with fail
   refine(MN.out _ qz4).mono ?_
   rintro e w5 ⟨rfl,q5⟩
   obtain⟨c0,c1',c2',c3',c4'⟩:=CELL.out _ (((q1.trans q3).trans q4).trans q5)
   have qz5:=qz4.trans q5
   go_wp2
   go_ret
   exact⟨by rw [HX.out];rfl,qz5⟩
 | true=>
 by_cases e7:Bz b≤20000
 ·have HX:Hid (R=true):=AC (by
   rcases HR.out with⟨h,-⟩ | ⟨-,h⟩
   ·exact h
   ·refine absurd ⟨e1,Ja.1 e2,E3.out,?_,?_,?_,e7⟩ h
    ·rcases H4.out with⟨-,k⟩ | ⟨k,-⟩;exact k;simp at k
    ·rcases H5.out with⟨-,k⟩ | ⟨k,-⟩;exact k;simp at k
    ·rcases H6.out with⟨-,k⟩ | ⟨k,-⟩;exact k;simp at k)
  have j7:¬ (20000:Int)<((Bz b:Nat):Int):=by omega
  clear e1 e2 e7
  go_enter Tryz.func15,Tryz.ntmps15
  go_wp2_with fail
  refine(BK.out _).mono ?_
  rintro e w1 ⟨rfl,q1⟩
  obtain⟨c0,c1',c2',c3',c4'⟩:=CELL.out _ q1
  go_wp2_with fail
  refine(IS.out _).mono ?_
  rintro e w2 ⟨rfl,rfl⟩
  go_wp2_with fail
  refine(IC.out _ (q0.trans q1)).mono ?_
  rintro e w3 ⟨rfl,q3⟩
  obtain⟨c0,c1',c2',c3',c4'⟩:=CELL.out _ (q1.trans q3)
  have qz3:=(q0.trans q1).trans q3
  go_wp2_with fail
  refine(PC.out _ qz3).mono ?_
  rintro e w4 ⟨rfl,q4⟩
  obtain⟨c0,c1',c2',c3',c4'⟩:=CELL.out _ ((q1.trans q3).trans q4)
  have qz4:=qz3.trans q4
  go_wp2_with fail
  refine(MN.out _ qz4).mono ?_
  rintro e w5 ⟨rfl,q5⟩
  obtain⟨c0,c1',c2',c3',c4'⟩:=CELL.out _ (((q1.trans q3).trans q4).trans q5)
  have qz5:=qz4.trans q5
  go_wp2_with fail
  refine(OC.out _ qz5).mono ?_
  rintro e w6 ⟨rfl,q6⟩
  have qz6:=qz5.trans q6
  go_wp2
  go_ret
  exact⟨by rw [HX.out];rfl,qz6⟩
 ·have HX:=AC (NO.out fun h=>e7 h.2.2.2.2.2.2)
  have j7:(20000:Int)<((Bz b:Nat):Int):=by omega
  clear e1 e2 e7
  go_enter Tryz.func15,Tryz.ntmps15
  go_wp2_with fail
  refine(BK.out _).mono ?_
  rintro e w1 ⟨rfl,q1⟩
  obtain⟨c0,c1',c2',c3',c4'⟩:=CELL.out _ q1
  go_wp2_with fail
  refine(IS.out _).mono ?_
  rintro e w2 ⟨rfl,rfl⟩
  go_wp2_with fail
  refine(IC.out _ (q0.trans q1)).mono ?_
  rintro e w3 ⟨rfl,q3⟩
  obtain⟨c0,c1',c2',c3',c4'⟩:=CELL.out _ (q1.trans q3)
  have qz3:=(q0.trans q1).trans q3
  go_wp2_with fail
  refine(PC.out _ qz3).mono ?_
  rintro e w4 ⟨rfl,q4⟩
  obtain⟨c0,c1',c2',c3',c4'⟩:=CELL.out _ ((q1.trans q3).trans q4)
  have qz4:=qz3.trans q4
  go_wp2_with fail
  refine(MN.out _ qz4).mono ?_
  rintro e w5 ⟨rfl,q5⟩
  obtain⟨c0,c1',c2',c3',c4'⟩:=CELL.out _ (((q1.trans q3).trans q4).trans q5)
  have qz5:=qz4.trans q5
  go_wp2_with fail
  refine(OC.out _ qz5).mono ?_
  rintro e w6 ⟨rfl,q6⟩
  have qz6:=qz5.trans q6
  go_wp2
  go_ret
  exact⟨by rw [HX.out];rfl,qz6⟩
theorem Qa(s:ByteArray)(w:World)(hs:s.size≤1000)(h:Al s=true):
  Calls Tryz.prog 18 #[.string s] w fun e w'=>e=.returned (.tuple #[bkt ⟨s,0,[],[],0⟩ (.slice none 0 0) (.slice none 0 0),.int .i64 0])∧Q w w':=by
 have BK:=AC fun d=>F2 s d hs
 rw [h] at BK
 clear h hs
 go_enter Tryz.func18,Tryz.ntmps18
 go_wp2_with fail
 refine(BK.out _).mono ?_
 rintro e w1 ⟨rfl,q1⟩
 have q0:=(Q.refl w).alloc (.cells (bcl ⟨noS,0,[],[],0⟩ (.slice none 0 0) (.slice none 0 0)) 26)
 have bx:=(Bx.new w 26 (bcl ⟨noS,0,[],[],0⟩ (.slice none 0 0) (.slice none 0 0))).on q1
 obtain⟨r0,r1,r2,r3,r4⟩:=AD bx
 have h0:=bx.frozen 0
 have h1:=bx.frozen 1
 have h2:=bx.frozen 2
 have h3:=bx.frozen 3
 have h4:=bx.frozen 4
 go_wp2
 (try simp only [Exit.inBlock,Exit.then])
 obtain⟨wC,hwC⟩:∃ wC,wC=((((w1.setCell ⟨w.heap.size,0,none⟩ (.string s)).setCell ⟨w.heap.size,1,none⟩ (.int .i64 0)).setCell ⟨w.heap.size,2,none⟩ (.slice none 0 0)).setCell ⟨w.heap.size,3,none⟩ (.slice none 0 0)).setCell ⟨w.heap.size,4,none⟩ (.int .u64 0):=⟨_,rfl⟩
 have bD:Bx wC w.heap.size 26 (bcl ⟨s,0,[],[],0⟩ (.slice none 0 0) (.slice none 0 0)):=by rw [hwC];exact((((bx.set 0 _).set 1 _).set 2 _).set 3 _).set 4 _
 have qC:Q w wC:=by rw [hwC];exact Q.set (Q.set (Q.set (Q.set (Q.set (q0.trans q1) (Nat.le_refl _) _) (Nat.le_refl _) _) (Nat.le_refl _) _) (Nat.le_refl _) _) (Nat.le_refl _) _
 rw [← hwC]
 obtain⟨v0,v1,v2,v3,v4⟩:=AD bD
 refine bodyPost_ret (v:=.tuple #[.agg #[.string s,.int .i64 0,.slice none 0 0,.slice none 0 0,.int .u64 0],.int .i64 0]) ?_ rfl ⟨rfl,qC⟩
 rw [results_cell_tmp rfl]
 go_simp
theorem LU(b:Bkt)(lv uv:Value)(w:World)(r:Bool)(hr:r=(decide (Dn b.L=0)&&decide (b.U.length=0)))(hs:smE b.L)(hu:smL b.U)(hv:BktV w b lv uv):
  Calls Tryz.prog 53 #[bkt b lv uv] w fun e w'=>e=.returned (.bool r)∧Q w w':=by
 have q0:=(Q.refl w).alloc (.cells (bcl b lv uv) 26)
 have Z:=AC (Bx.new w 26 (bcl b lv uv))
 have CO:=AC (H0 b.L lv (w.alloc (.cells (bcl b lv uv) 26)) hs.1 (hv.1.on q0))
 obtain⟨A1,c1,rfl⟩:=hv.1.form
 obtain⟨A2,c2,rfl⟩:=hv.2.form
 have HRR:=AC hr
 clear hr hs hu hv
 rw [bkt]
 by_cases h1:Dn b.L=0
 ·rw [h1] at CO HRR
  clear h1
  by_cases h2:b.U.length=0
  ·have hx:r=true:=by rw [HRR.out,h2];rfl
   have h3:((b.U.length:Int)==0)=true:=by simp [h2]
   clear h2 HRR
   subst hx
   go_enter Tryz.func53,Tryz.ntmps53
   go_wp2_with fail
   refine(CO.out).mono ?_
   rintro e w1 ⟨rfl,q1⟩
   obtain⟨-,-,-,e3,-⟩:=AD (Z.out.on q1)
   go_wp2
   go_ret
   exact⟨by first | rfl | simp [*],q0.trans q1⟩
  ·have hx:r=false:=by rw [HRR.out];simp [h2]
   have h3:((b.U.length:Int)==0)=false:=by simp;simpa using h2
   clear h2 HRR
   subst hx
   go_enter Tryz.func53,Tryz.ntmps53
   go_wp2_with fail
   refine(CO.out).mono ?_
   rintro e w1 ⟨rfl,q1⟩
   obtain⟨-,-,-,e3,-⟩:=AD (Z.out.on q1)
   go_wp2
   go_ret
   exact⟨by first | rfl | simp [*],q0.trans q1⟩
 ·have hx:r=false:=by rw [HRR.out];simp [h1]
  have h3:(((Dn b.L:Nat):Int)==0)=false:=by simp;omega
  clear h1 HRR
  subst hx
  generalize Dn b.L=y at *
  go_enter Tryz.func53,Tryz.ntmps53
  go_wp2_with fail
  refine(CO.out).mono ?_
  rintro e w1 ⟨rfl,q1⟩
  obtain⟨-,-,-,e3,-⟩:=AD (Z.out.on q1)
  go_wp2
  go_ret
  exact⟨by first | rfl | simp [*],q0.trans q1⟩
end
end Go.Proofs.YtjjlbbfhmpbneaaGreat
