/-
  Contract of the document's May of a bucket.
-/
import Derived.Test.YtjjlbbfhmpbneaaGreatLy
import Derived.Deep.QuietTactic
import Derived.BigQuiet
namespace Go.Proofs.YtjjlbbfhmpbneaaGreat
open Lib renaming hid → AC
set_option maxHeartbeats 16000000
set_option maxRecDepth 100000
set_option linter.unusedVariables false
set_option linter.unusedSimpArgs false
section
open Go.ChangeShapes Go.WideShapes Go.ChangeAt Go.RowKit Go.Shelf
theorem Vers.pick2{w:World}{v:Value}{l:List Ver}(h:Vers w w.heap.size v l)(i:Nat)(hi:i<l.length):
  ∃ (a:Addr) (c:Nat),v=.slice (some a) l.length c∧∀ d,Q w d→d.cell? (a.add (i*4))=some (.int .u64 (l[i].id:Nat)):=by
 obtain⟨A,c,rfl,-,-,-,f⟩:=h
 obtain⟨a,rfl,ha,hat⟩:=f i hi
 exact⟨a,c,rfl,fun d q=>(hat.keep (by rw [AG];exact ha) fun _ hp=>q.cell hp).1⟩
def LX(b:Bkt)(x:Ver):Bool:=decide (EE b<x.id)
theorem Mg{b:Bkt}{i k:Nat}(hi:i<b.L.length)(hk:k<b.L[i].L.length)(h:LX b b.L[i].L[k]=true):¬ B8 b.L (EE b):=fun g=>by
 have:=g _ (List.getElem_mem hi) _ (List.getElem_mem hk)
 simp [LX] at h
 omega
theorem Kd{b:Bkt}(h:∀ i (hi:i<b.L.length) k (hk:k<b.L[i].L.length),LX b b.L[i].L[k]=false):B8 b.L (EE b):=fun e he x hx=>by
 obtain⟨i,hi,rfl⟩:=List.getElem_of_mem he
 obtain⟨k,hk,rfl⟩:=List.getElem_of_mem hx
 have:=h i hi k hk
 simp [LX] at this
 exact this
theorem BU(b:Bkt)(lv uv:Value)(w:World)(R:Bool)(hR:Chk (okB b) R)(hn:b.name.size≤1000)(hs:smE b.L)(hu:smL b.U)(hv:BktV w b lv uv):
  Calls Tryz.prog 16 #[bkt b lv uv] w fun e w'=>e=.returned (.bool R)∧Q w w':=by
 obtain⟨A1,c1,rfl⟩:=hv.1.form
 obtain⟨A2,c2,rfl⟩:=hv.2.form
 have q0:Q w (w.alloc (.cells (bcl b (.slice A1 b.L.length c1) (.slice A2 b.U.length c2)) 26)):=(Q.refl w).alloc _
 have Z:Hid (Bx (w.alloc (.cells (bcl b (.slice A1 b.L.length c1) (.slice A2 b.U.length c2)) 26)) w.heap.size 26 (bcl b (.slice A1 b.L.length c1) (.slice A2 b.U.length c2))):=AC (Bx.new w 26 (bcl b (.slice A1 b.L.length c1) (.slice A2 b.U.length c2)))
 have HV:=AC hv
 have HR:=AC hR
 have BK:=AC fun d=>IZ b.name d hn
 obtain⟨R4,h4⟩:=Gk b.L
 obtain⟨R5,h5⟩:=Bw (Ab b.U)
 have IC:=AC fun d (q:Q w d)=>Eh b.L (.slice A1 b.L.length c1) d R4 h4 hs.1 (hv.1.on q)
 have PC:=AC fun d (q:Q w d)=>Eg b.U (.slice A2 b.U.length c2) d R5 h5 hu (hv.2.on q)
 have OC:=AC fun d (q:Q w d)=>Ef b (.slice A1 b.L.length c1) (.slice A2 b.U.length c2) d hs hu (hv.on q)
 rw [bkt] at OC
 rw [bkt]
 have NO:Hid (¬ okB b→R=false):=AC fun h=>by
  rcases HR.out with⟨-,k⟩ | ⟨rfl,-⟩
  ·exact absurd k h
  ·rfl
 have H4:=AC h4
 have H5:=AC h5
 have HS:=AC hs
 have HUL:=AC hu.1
 have CELL:Hid (∀ d,Q (w.alloc (.cells (bcl b (.slice A1 b.L.length c1) (.slice A2 b.U.length c2)) 26)) d→d.cell? ⟨w.heap.size,0,none⟩=some (.string b.name)∧d.cell? ⟨w.heap.size,1,none⟩=some (.int .i64 b.st)∧d.cell? ⟨w.heap.size,2,none⟩=some (.slice A1 b.L.length c1)∧d.cell? ⟨w.heap.size,3,none⟩=some (.slice A2 b.U.length c2)∧d.cell? ⟨w.heap.size,4,none⟩=some (.int .u64 (b.last:Nat))):=AC fun d q=>AD (Z.out.on q)
 clear hn hs hu hv hR h4 h5
 cases e1:Al b.name with
 | false=>
   have HX:=AC (NO.out fun h=>by rw [h.1] at e1;simp at e1)
   rw [e1] at BK
   clear e1
   go_enter Tryz.func16,Tryz.ntmps16
   obtain⟨c0',c1',c2',c3',c4'⟩:=CELL.out _ (Q.refl _)
   go_wp2_with fail
   refine(BK.out _).mono ?_
   rintro e w1 ⟨rfl,rfl⟩
   go_wp2
   go_ret
   exact⟨by rw [HX.out];rfl,q0⟩
 | true=>
 rw [e1] at BK
 by_cases e2:b.st<0
 case pos=>
  have HX:=AC (NO.out fun h=>by have:=h.2.1.1;omega)
  clear e1
  go_enter Tryz.func16,Tryz.ntmps16
  obtain⟨c0',c1',c2',c3',c4'⟩:=CELL.out _ (Q.refl _)
  go_wp2_with fail
  refine(BK.out _).mono ?_
  rintro e w1 ⟨rfl,rfl⟩
  go_wp2
  go_ret
  exact⟨by rw [HX.out];rfl,q0⟩
 by_cases e2':2<b.st
 case pos=>
  have HX:=AC (NO.out fun h=>by have:=h.2.1.2;omega)
  clear e1
  go_enter Tryz.func16,Tryz.ntmps16
  obtain⟨c0',c1',c2',c3',c4'⟩:=CELL.out _ (Q.refl _)
  go_wp2_with fail
  refine(BK.out _).mono ?_
  rintro e w1 ⟨rfl,rfl⟩
  go_wp2
  go_ret
  exact⟨by rw [HX.out];rfl,q0⟩
 by_cases e3:b.last≤281474976710655
 case neg=>
  have HX:=AC (NO.out fun h=>e3 h.2.2.1)
  have j3:(281474976710655:Int)<(b.last:Int):=by omega
  clear e1 e3
  go_enter Tryz.func16,Tryz.ntmps16
  obtain⟨c0',c1',c2',c3',c4'⟩:=CELL.out _ (Q.refl _)
  go_wp2_with fail
  refine(BK.out _).mono ?_
  rintro e w1 ⟨rfl,rfl⟩
  go_wp2
  go_ret
  exact⟨by rw [HX.out];rfl,q0⟩
 have j3:¬ (281474976710655:Int)<(b.last:Int):=by omega
 have E3:=AC e3
 clear e3
 cases R4 with
 | false=>
   have HX:=AC (NO.out fun h=>by rcases H4.out with⟨k,-⟩ | ⟨-,k⟩;simp at k;exact k h.2.2.2.1)
   clear e1
   go_enter Tryz.func16,Tryz.ntmps16
   obtain⟨c0',c1',c2',c3',c4'⟩:=CELL.out _ (Q.refl _)
   go_wp2_with fail
   refine(BK.out _).mono ?_
   rintro e w1 ⟨rfl,rfl⟩
   go_wp2_with fail
   refine(IC.out _ q0).mono ?_
   rintro e w3 ⟨rfl,q3⟩
   obtain⟨c0',c1',c2',c3',c4'⟩:=CELL.out _ q3
   have qz3:=q0.trans q3
   go_wp2
   go_ret
   exact⟨by rw [HX.out];rfl,qz3⟩
 | true=>
 cases R5 with
 | false=>
   have HX:=AC (NO.out fun h=>by rcases H5.out with⟨k,-⟩ | ⟨-,k⟩;simp at k;exact k h.2.2.2.2.1)
   clear e1
   go_enter Tryz.func16,Tryz.ntmps16
   obtain⟨c0',c1',c2',c3',c4'⟩:=CELL.out _ (Q.refl _)
   go_wp2_with fail
   refine(BK.out _).mono ?_
   rintro e w1 ⟨rfl,rfl⟩
   go_wp2_with fail
   refine(IC.out _ q0).mono ?_
   rintro e w3 ⟨rfl,q3⟩
   obtain⟨c0',c1',c2',c3',c4'⟩:=CELL.out _ q3
   have qz3:=q0.trans q3
   go_wp2_with fail
   refine(PC.out _ qz3).mono ?_
   rintro e w4 ⟨rfl,q4⟩
   obtain⟨c0',c1',c2',c3',c4'⟩:=CELL.out _ (q3.trans q4)
   have qz4:=qz3.trans q4
   go_wp2
   go_ret
   exact⟨by rw [HX.out];rfl,qz4⟩
 | true=>
 by_cases e7:Bz b≤20000
 case neg=>
  have HX:=AC (NO.out fun h=>e7 h.2.2.2.2.2.2)
  have j7:(20000:Int)<((Bz b:Nat):Int):=by omega
  clear e1 e7
  go_enter Tryz.func16,Tryz.ntmps16
  obtain⟨c0',c1',c2',c3',c4'⟩:=CELL.out _ (Q.refl _)
  go_wp2_with fail
  refine(BK.out _).mono ?_
  rintro e w1 ⟨rfl,rfl⟩
  go_wp2_with fail
  refine(IC.out _ q0).mono ?_
  rintro e w3 ⟨rfl,q3⟩
  obtain⟨c0',c1',c2',c3',c4'⟩:=CELL.out _ q3
  have qz3:=q0.trans q3
  go_wp2_with fail
  refine(PC.out _ qz3).mono ?_
  rintro e w4 ⟨rfl,q4⟩
  obtain⟨c0',c1',c2',c3',c4'⟩:=CELL.out _ (q3.trans q4)
  have qz4:=qz3.trans q4
  go_wp2_with fail
  refine(OC.out _ qz4).mono ?_
  rintro e w6 ⟨rfl,q6⟩
  have qz6:=qz4.trans q6
  go_wp2
  go_ret
  exact⟨by rw [HX.out];rfl,qz6⟩
 have YES:Hid (B8 b.L (EE b)→R = !(b.U.any fun x=>decide (b.last<x.id))):=AC fun hE=>by
  have hq:Fo b.U b.last→okB b:=fun hU=>⟨e1,⟨by omega,by omega⟩,E3.out,(by rcases H4.out with⟨-,k⟩ | ⟨k,-⟩;exact k;simp at k),(by rcases H5.out with⟨-,k⟩ | ⟨k,-⟩;exact k;simp at k),⟨hE,hU⟩,e7⟩
  cases hx:(b.U.any fun x=>decide (b.last<x.id)) with
  | false=>
    rcases HR.out with⟨h,-⟩ | ⟨-,h⟩
    ·exact h
    ·exact absurd (hq (Cz.2 hx)) h
  | true=>
    refine NO.out fun h=>?_
    have:=Cz.1 h.2.2.2.2.2.1.2
    rw [hx] at this
    simp at this
 have NOE:Hid (¬ B8 b.L (EE b)→R=false):=AC fun h=>NO.out fun g=>h g.2.2.2.2.2.1.1
 have j7:¬ (20000:Int)<((Bz b:Nat):Int):=by omega
 have hl0:=HS.out.1.1
 have hul:=HUL.out
 clear e1 e7
 go_enter Tryz.func16,Tryz.ntmps16
 obtain⟨c0',c1',c2',c3',c4'⟩:=CELL.out _ (Q.refl _)
 go_wp2_with fail
 refine(BK.out _).mono ?_
 rintro e w1 ⟨rfl,rfl⟩
 go_wp2_with fail
 refine(IC.out _ q0).mono ?_
 rintro e w3 ⟨rfl,q3⟩
 obtain⟨c0',c1',c2',c3',c4'⟩:=CELL.out _ q3
 have qz3:=q0.trans q3
 go_wp2_with fail
 refine(PC.out _ qz3).mono ?_
 rintro e w4 ⟨rfl,q4⟩
 obtain⟨c0',c1',c2',c3',c4'⟩:=CELL.out _ (q3.trans q4)
 have qz4:=qz3.trans q4
 go_wp2_with fail
 refine(OC.out _ qz4).mono ?_
 rintro e w6 ⟨rfl,q6⟩
 have qz6:=qz4.trans q6
 have qw:Q (w.alloc (.cells (bcl b (.slice A1 b.L.length c1) (.slice A2 b.U.length c2)) 26)) w6:=((Q.refl _).trans (q3.trans (q4.trans q6)))
 have HQ:=AC (And.intro qw qz6)
 clear q3 q4 q6 qz3 qz4 BK IC PC OC qw qz6
 clear c0' c1' c2' c3' c4'
 go_wp2_with fail
 go_loopw [3,4,5] (fun I _ _ wr=>∃ i:Nat,i≤b.L.length∧I=.int .i64 i∧Q w6 wr∧Hid (∀ j (hj:j<b.L.length),j<i→∀ k (hk:k<b.L[j].L.length),LX b b.L[j].L[k]=false)) (fun I _ _ _=>b.L.length - (intOf I).toNat)
 case atStart=>exact⟨0,Nat.zero_le _,rfl,Q.refl _,AC (fun j _ h=>by omega)⟩
 case round=>
  obtain⟨i,hil,rfl,q,HK⟩:=hrel
  obtain⟨c0',c1',c2',c3',c4'⟩:=CELL.out _ (HQ.out.1.trans q)
  by_cases hlt:i<b.L.length
  ·obtain⟨a,c',hv,ha,A3,c3,hvs,hat⟩:=HV.out.1.pick i hlt
   injection hv with f1 f2 f3
   subst f1 f3
   have hle:=(HS.out.1.2 _ (List.getElem_mem hlt)).2.1
   have hilt:(i:Int)<(b.L.length:Int):=by omega
   have HNO:Hid (∀ k (hk:k<b.L[i].L.length),LX b b.L[i].L[k]=true→R=false):=AC fun k hk h=>NOE.out (Mg hlt hk h)
   have HNX:Hid ((∀ k (hk:k<b.L[i].L.length),LX b b.L[i].L[k]=false)→Hid (∀ j (hj:j<b.L.length),j<i+1→∀ k (hk:k<b.L[j].L.length),LX b b.L[j].L[k]=false)):=AC fun h=>AC fun j hj hji=>by
    by_cases e:j=i
    ·subst e;exact h
    ·exact HK.out j hj (by omega)
   obtain⟨x,hx⟩:∃ x,x=b.L[i]:=⟨_,rfl⟩
   rw [← hx] at hvs hat hle HNO HNX
   clear hx
   obtain⟨xk,M⟩:=x
   simp only at hvs hat hle HNO HNX
   have HVS:=AC hvs
   have HAT:=AC hat
   obtain⟨d0,d1⟩:=hat _ (HQ.out.2.trans q)
   clear hvs hat
   go_wp2_with fail
   go_loopw [4,5] (fun K _ ws=>∃ k:Nat,k≤M.length∧K=.int .i64 k∧Q w6 ws∧Hid (∀ j (hj:j<M.length),j<k→LX b M[j]=false)) (fun K _ _=>M.length - (intOf K).toNat)
   case atStart=>exact⟨0,Nat.zero_le _,rfl,q,AC (fun j _ h=>by omega)⟩
   case round=>
    clear c0' c1' c2' c3' c4' d0 d1 q
    obtain⟨k,hkl,rfl,q,HKK⟩:=hrel
    obtain⟨c0',c1',c2',c3',c4'⟩:=CELL.out _ (HQ.out.1.trans q)
    obtain⟨d0,d1⟩:=HAT.out _ (HQ.out.2.trans q)
    by_cases hlk:k<M.length
    ·obtain⟨aa,cc,hv2,hatv⟩:=HVS.out.pick2 k hlk
     injection hv2 with g1 g2 g3
     subst g1 g3
     have e0:=hatv _ (HQ.out.2.trans q)
     have hklt:(k:Int)<(M.length:Int):=by omega
     have HB:Hid (LX b M[k]=decide (EE b<M[k].id)):=AC rfl
     have HN2:=AC (HNO.out k hlk)
     have HS2:Hid (LX b M[k]=false→Hid (∀ j (hj:j<M.length),j<k+1→LX b M[j]=false)):=AC fun h=>AC fun j hj hjk=>by
      by_cases e:j=k
      ·subst e;exact h
      ·exact HKK.out j hj (by omega)
     obtain⟨bd,hbd⟩:∃ bd,bd=LX b M[k]:=⟨_,rfl⟩
     obtain⟨y,hy⟩:∃ y,y=M[k].id:=⟨_,rfl⟩
     rw [← hbd] at HN2 HS2 HB
     rw [← hy] at HB e0
     clear hbd hy hatv
     by_cases g1:b.last<y
     ·have HX:=AC (HN2.out (by rw [HB.out];simp only [decide_eq_true_eq];unfold EE;split <;> omega))
      have j1:(b.last:Int)<(y:Int):=by omega
      clear g1
      go_wp2
      go_ret
      exact⟨by rw [HX.out];rfl,HQ.out.2.trans q⟩
     ·have j1:¬ (b.last:Int)<(y:Int):=by omega
      by_cases g2:b.st=0
      ·have j2:(b.st==0)=true:=by simpa using g2
       by_cases g3:0<y
       ·have HX:=AC (HN2.out (by rw [HB.out];simp only [decide_eq_true_eq];unfold EE;rw [if_pos g2];omega))
        have j3':(0:Int)<(y:Int):=by omega
        clear g1 g2 g3
        go_wp2
        go_ret
        exact⟨by rw [HX.out];rfl,HQ.out.2.trans q⟩
       ·have HX:=AC (HS2.out (by rw [HB.out];simp only [decide_eq_false_iff_not];unfold EE;rw [if_pos g2];omega))
        have j3':¬ (0:Int)<(y:Int):=by omega
        clear g1 g2 g3
        go_wp2
        go_roundw
        case rel=>exact⟨k+1,by omega,by go_num,q,HX.out⟩
        case measure=>simp [intOf];omega
      ·have j2:(b.st==0)=false:=by simpa using g2
       have HX:=AC (HS2.out (by rw [HB.out];simp only [decide_eq_false_iff_not];unfold EE;rw [if_neg g2];omega))
       clear g1 g2
       go_wp2
       go_roundw
       case rel=>exact⟨k+1,by omega,by go_num,q,HX.out⟩
       case measure=>simp [intOf];omega
    ·have hklt:¬ (k:Int)<(M.length:Int):=by omega
     have HX:=AC (HNX.out fun j hj=>HKK.out j hj (by omega))
     go_wp2
     go_roundw
     case rel=>exact⟨i+1,by omega,by go_num,q,HX.out⟩
     case measure=>simp [intOf];omega
  ·have hilt:¬ (i:Int)<(b.L.length:Int):=by omega
   have HY:=AC (YES.out (Kd fun j hj=>HK.out j hj (by omega)))
   clear YES NOE HK
   go_wp2_with fail
   go_loopw [6] (fun J ws=>∃ j:Nat,j≤b.U.length∧J=.int .i64 j∧Q w6 ws∧Hid (∀ m (hm:m<b.U.length),m<j→¬ b.last<b.U[m].id)) (fun J _=>b.U.length - (intOf J).toNat)
   case atStart=>exact⟨0,Nat.zero_le _,rfl,q,AC (fun j _ h=>by omega)⟩
   case round=>
    clear c0' c1' c2' c3' c4' q
    obtain⟨j,hjl,rfl,q,HJ⟩:=hrel
    obtain⟨c0',c1',c2',c3',c4'⟩:=CELL.out _ (HQ.out.1.trans q)
    by_cases hlj:j<b.U.length
    ·obtain⟨a,c',hv,ha,A4,c4,hps,hat⟩:=HV.out.2.pick j hlj
     injection hv with f1 f2 f3
     subst f1 f3
     obtain⟨d0,-⟩:=hat _ (HQ.out.2.trans q)
     have hjlt:(j:Int)<(b.U.length:Int):=by omega
     by_cases g1:b.last<b.U[j].id
     ·have HX:Hid (R=false):=AC (by
       rw [HY.out,show(b.U.any fun x=>decide (b.last<x.id))=true from List.any_eq_true.2 ⟨_,List.getElem_mem hlj,by simpa using g1⟩];rfl)
      have j1:(b.last:Int)<((b.U[j].id:Nat):Int):=by omega
      obtain⟨y,hy⟩:∃ y,y=b.U[j].id:=⟨_,rfl⟩
      rw [← hy] at d0 j1
      clear hy g1 hps hat
      go_upto_region 15 with fail
      go_quiet (fail)
      go_wp2
      go_ret
      exact⟨by rw [HX.out];rfl,HQ.out.2.trans (q.drewN _)⟩
     ·have HX:Hid (∀ m (hm:m<b.U.length),m<j+1→¬ b.last<b.U[m].id):=AC fun m hm hmj=>by
       by_cases e:m=j
       ·subst e;exact g1
       ·exact HJ.out m hm (by omega)
      have j1:¬ (b.last:Int)<((b.U[j].id:Nat):Int):=by omega
      obtain⟨y,hy⟩:∃ y,y=b.U[j].id:=⟨_,rfl⟩
      rw [← hy] at d0 j1
      clear hy g1 hps hat
      go_upto_region 15 with fail
      go_quiet (fail)
      have qn:=q.drewN nq
      go_wp2
      go_roundw
      case rel=>exact⟨j+1,by omega,by go_num,qn,HX⟩
      case measure=>simp [intOf];omega
    ·have hjlt:¬ (j:Int)<(b.U.length:Int):=by omega
     have HX:Hid (R=true):=AC (by
      rw [HY.out,show(b.U.any fun x=>decide (b.last<x.id))=false from ?_];rfl
      rw [List.any_eq_false]
      intro x hx
      obtain⟨m,hm,rfl⟩:=List.getElem_of_mem hx
      simpa using HJ.out m hm (by omega))
     go_wp2
     go_ret
     exact⟨by rw [HX.out];rfl,HQ.out.2.trans q⟩
end
end Go.Proofs.YtjjlbbfhmpbneaaGreat
