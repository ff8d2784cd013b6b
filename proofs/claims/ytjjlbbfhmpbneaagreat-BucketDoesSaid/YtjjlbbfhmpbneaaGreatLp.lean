/-
  Contracts of the program's Same and of the document's. Contract of the document's Same. append of a part as one operation of a region that draws. Contracts of the statements' One and Few. Rows of uploads whose lists are rows of one's own: they lie above all that was there, and stay where a box below is written. Contract of the statements' Few over uploads.
-/
import Derived.Test.YtjjlbbfhmpbneaaGreatLm
import Derived.Test.YtjjlbbfhmpbneaaGreatLo
import Derived.Test.YtjjlbbfhmpbneaaGreatLn
import Derived.Deep.DeepCutAuto
import Derived.Deep.RegionHeld3
namespace Go.Proofs.YtjjlbbfhmpbneaaGreat
open AllReadyH renaming cons → aC, nil → aN
open Lib renaming hid → AC
set_option maxHeartbeats 16000000
set_option maxRecDepth 100000
set_option linter.unusedVariables false
set_option linter.unusedSimpArgs false
section
open Go.ChangeShapes Go.WideShapes Go.ChangeAt Go.RowKit
theorem Sq{a b:ByteArray}(h:a≠b):(a.toList==b.toList)=false:=by rw [Jl];simpa using h
theorem Q8(a:ByteArray):(a.toList==a.toList)=true:=by simp
theorem RO{x y:Prt}(h:x≠y):x.n≠y.n∨(x.n=y.n∧x.data≠y.data):=by
 by_cases e:x.n=y.n
 ·right;refine⟨e,fun k=>h ?_⟩;cases x;cases y;simp only at e k;rw [e,k]
 ·exact .inl e
theorem Q5{a b:List Upl}{i:Nat}(h:i<a.length)(k:i<b.length)(n:a[i]≠b[i]):a≠b:=by
 rintro rfl;exact n rfl
theorem RN{a b:List Prt}{i:Nat}(h:i<a.length)(k:i<b.length)(n:a[i]≠b[i]):a≠b:=by
 rintro rfl;exact n rfl
end
section
open Go.ChangeShapes Go.WideShapes Go.ChangeAt Go.RowKit
theorem KH(a b:List Upl)(va vb:Value)(w:World)(R:Bool)(hR:Chk (a=b) R)(sa:smL a)(sb:smL b)(ha:Upls w w.heap.size va a)(hb:Upls w w.heap.size vb b):
  Calls Tryz.prog 43 #[va,vb] w fun e w'=>e=.returned (.bool R)∧D w w':=by
 have HA:=AC ha
 have HB:=AC hb
 have HR:=AC hR
 have SA:=AC sa
 have SB:=AC sb
 have hl:=sa.1
 have hlb:=sb.1
 obtain⟨A,c,rfl⟩:=ha.form
 obtain⟨B,c',rfl⟩:=hb.form
 clear ha hb hR sa sb
 by_cases he:a.length=b.length
 ·have hen:((a.length:Int) != (b.length:Int))=false:=by simp [he]
  have HE:=AC he
  clear he
  go_enter Tryz.func43,Tryz.ntmps43
  go_wp2_with fail
  go_loopw [5,6] (fun I _ wr=>∃ i:Nat,i≤a.length∧I=.int .i64 i∧D w wr∧Hid (a.take i=b.take i)) (fun I _ _=>a.length - (intOf I).toNat)
  case atStart=>exact⟨0,Nat.zero_le _,rfl,D.refl _,AC (by simp)⟩
  case round=>
   obtain⟨i,hil,rfl,d,HT⟩:=hrel
   by_cases hlt:i<a.length
   ·have hlb2:i<b.length:=by rw [← HE.out];exact hlt
    obtain⟨p,c1,hv1,hp,A1,k1,hv,hat⟩:=HA.out.pick i hlt
    obtain⟨q,c2,hv2,hq,A2,k2,hu,hbt⟩:=HB.out.pick i hlb2
    injection hv1 with e1 e2 e3
    injection hv2 with f1 f2 f3
    subst e1 e3 f1 f3
    obtain⟨m,rfl⟩:=d
    obtain⟨d0,d1,d2⟩:=hat w (Q.refl w)
    obtain⟨g0,g1,g2⟩:=hbt w (Q.refl w)
    have hi1:(i:Int)<(a.length:Int):=by omega
    have hi2:(i:Int)<(b.length:Int):=by omega
    have hmx:=(SA.out.2 _ (List.getElem_mem hlt)).2.1
    have hmy:=(SB.out.2 _ (List.getElem_mem hlb2)).2.1
    have NOE:a[i]≠b[i]→R=false:=fun h=>HR.out.no (Q5 hlt hlb2 h)
    have YES:a[i]=b[i]→a.take (i+1)=b.take (i+1):=fun h=>by rw [List.take_succ_eq_append_getElem hlt,List.take_succ_eq_append_getElem hlb2,HT.out,h]
    obtain⟨x,hx⟩:∃ x,x=a[i]:=⟨_,rfl⟩
    obtain⟨y,hy⟩:∃ y,y=b[i]:=⟨_,rfl⟩
    rw [← hx] at d0 d1 d2 hv hmx NOE YES
    rw [← hy] at g0 g1 g2 hu hmy NOE YES
    clear hat hbt hx hy e2 f2
    obtain⟨xi,xk,X⟩:=x
    obtain⟨yi,yk,Y⟩:=y
    simp only at d0 d1 d2 hv hmx g0 g1 g2 hu hmy
    by_cases hi:xi=yi
    ·subst hi
     by_cases hk:xk=yk
     ·subst hk
      have hb:=Q8 xk
      by_cases hL:X.length=Y.length
      ·have HX:=AC hv
       have HY:=AC hu
       have NOE2:=AC NOE
       have YES2:=AC YES
       obtain⟨n,hn⟩:∃ n,X.length=n:=⟨_,rfl⟩
       have hn2:Y.length=n:=by rw [← hL];exact hn
       rw [hn] at d2 hmx
       rw [hn2] at g2 hmy
       have HN:=AC hn
       have HN2:=AC hn2
       clear hL hn hn2 hv hu NOE YES
       go_wp2_with fail
       go_quiet (fail)
       go_wp2_with fail
       go_loopw [6] (fun J wz=>∃ j:Nat,j≤n∧J=.int .i64 j∧D w wz∧Hid (X.take j=Y.take j)) (fun J _=>n - (intOf J).toNat)
       case atStart=>exact⟨0,Nat.zero_le _,rfl,⟨m+nq,by first | rfl | rw [World.drewN_drewN]⟩,AC (by simp)⟩
       case round=>
        obtain⟨j,hjn,rfl,dz,HJ⟩:=hrel
        obtain⟨m2,rfl⟩:=dz
        by_cases hjl:j<n
        ·have hjX:j<X.length:=by have:=HN.out;omega
         have hjY:j<Y.length:=by have:=HN2.out;omega
         obtain⟨p3,c3,hv3,hp3,-,hat3⟩:=HX.out.pick j hjX
         obtain⟨p4,c4,hv4,hp4,-,hat4⟩:=HY.out.pick j hjY
         injection hv3 with x1 x2 x3
         injection hv4 with y1 y2 y3
         subst x1 x3 y1 y3
         have hj1:(j:Int)<(n:Int):=by omega
         obtain⟨r0,r1⟩:=hat3 w (Q.refl w)
         obtain⟨s0,s1⟩:=hat4 w (Q.refl w)
         have NO3:X[j]≠Y[j]→R=false:=fun h=>NOE2.out fun e=>RN hjX hjY h (Upl.mk.inj e).2.2
         have YES3:X[j]=Y[j]→X.take (j+1)=Y.take (j+1):=fun h=>by rw [List.take_succ_eq_append_getElem hjX,List.take_succ_eq_append_getElem hjY,HJ.out,h]
         obtain⟨xx,hxx⟩:∃ z,z=X[j]:=⟨_,rfl⟩
         obtain⟨yy,hyy⟩:∃ z,z=Y[j]:=⟨_,rfl⟩
         rw [← hxx] at r0 r1 NO3 YES3
         rw [← hyy] at s0 s1 NO3 YES3
         clear hat3 hat4 hxx hyy x2 y2
         by_cases hxy:xx=yy
         ·have HT3:=AC (YES3 hxy)
          subst hxy
          clear YES3 NO3
          go_wp2_with fail
          go_region
          go_wp2
          go_roundw
          case rel=>exact⟨j+1,by omega,by go_num,⟨m2+1,by simp [Nat.add_comm]⟩,HT3⟩
          case measure=>simp [intOf];omega
         ·have HV:=AC (NO3 hxy)
          have hne:=RO hxy
          clear YES3 NO3 hxy
          obtain⟨xj,xd⟩:=xx
          obtain⟨yj,yd⟩:=yy
          simp only at r0 r1 s0 s1 hne
          rcases hne with h | ⟨rfl,h⟩
          ·go_wp2_with fail
           go_region
           go_wp2
           go_ret
           exact⟨AE (by rw [HV.out]),(D.drewN ⟨m2,rfl⟩ 1)⟩
          ·have h':¬ (xd.toList=yd.toList):=fun e=>h (FL (by rw [← BQ,← BQ,e]))
           clear h
           go_wp2_with fail
           go_region
           go_wp2
           go_ret
           exact⟨AE (by rw [HV.out]),(D.drewN ⟨m2,rfl⟩ 1)⟩
        ·have HT2:=AC (YES2.out (by have:=HJ.out;rw [List.take_of_length_le (by have:=HN.out;omega),List.take_of_length_le (by have:=HN2.out;omega)] at this;rw [this]))
         have hj1:¬ (j:Int)<(n:Int):=by omega
         go_wp2
         go_roundw
         case rel=>exact⟨i+1,by omega,by go_num,⟨m2,rfl⟩,HT2⟩
         case measure=>simp [intOf];omega
      ·have HV:=AC (NOE fun e=>hL (congrArg (fun u=>u.L.length) e))
       have hd:¬ (X.length:Int)=(Y.length:Int):=by omega
       clear NOE YES
       go_wp2_with fail
       go_quiet (fail)
       go_wp2
       go_ret
       exact⟨AE (by rw [HV.out]),⟨m+nq,by first | rfl | rw [World.drewN_drewN]⟩⟩
     ·have HV:=AC (NOE fun e=>hk (congrArg (fun u=>u.key) e))
      have h1:=Sq hk
      have h2:¬ xk.toList=yk.toList:=by simpa using h1
      clear NOE YES
      go_wp2_with fail
      go_quiet (fail)
      go_wp2
      go_ret
      exact⟨AE (by rw [HV.out]),⟨m+nq,by first | rfl | rw [World.drewN_drewN]⟩⟩
    ·have HV:=AC (NOE fun e=>hi (congrArg (fun u=>u.id) e))
     have hd:((xi:Int) != (yi:Int))=true:=by
      have:¬ (xi:Int)=(yi:Int):=by omega
      simpa using this
     have hd2:decide (xi=yi)=false:=by simpa using hi
     have hd3:decide ((xi:Int)=(yi:Int))=false:=by simp only [decide_eq_false_iff_not];omega
     have hd4:(xi != yi)=true:=by simpa using hi
     clear NOE YES
     go_wp2_with fail
     go_quiet (fail)
     go_wp2
     go_ret
     exact⟨AE (by rw [HV.out]),⟨m+nq,by first | rfl | rw [World.drewN_drewN]⟩⟩
   ·have HV:=AC (HR.out.yes (by have:=HT.out;rw [List.take_of_length_le (by omega),List.take_of_length_le (by have:=HE.out;omega)] at this;exact this))
    go_wp2
    go_ret
    exact⟨AE (by rw [HV.out]),d⟩
 ·have HV:=AC (HR.out.no (fun e=>he (congrArg List.length e)))
  have hen:((a.length:Int) != (b.length:Int))=true:=by
   have:¬ (a.length:Int)=(b.length:Int):=by omega
   simpa using this
  clear he
  go_enter Tryz.func43,Tryz.ntmps43
  go_wp2
  go_ret
  exact⟨AE (by rw [HV.out]),D.refl _⟩
end
section
open Go.ChangeShapes Go.WideShapes Go.ChangeAt Go.RowKit
theorem Ce{o:Oper}{a:Act}{K:Act→World→Prop}{Q:Exit→Act→World→Prop}(w:World)(s x:Operand)(t:TypeId)
  (htt:Tryz.prog.underlying t=some (.slice 64)) (ho:o.op=.call {callee:=.builtin .append,args:=#[s,x],argTypes:=#[t,t]})
  (base g:Nat) (v:Value) (l:List Prt) (y:Prt) {c:Nat} (hs:a.eval s=v) (hx:a.eval x=.slice (some ⟨g,0,none⟩) 1 c) (hgg:∀ j u,(pcl y)[j]?=some u→w.cell? ((⟨g,0,none⟩:Addr).add j)=some u) (h:OwnP base w v l)
  (hb:base≤w.heap.size) (hl:l.length≤4000)
  (k:∀ v' w',OwnP base w' v' (l ++ [y])→w.grownBy w' v.ownBlock→K (a.put o.dst v') w'):Oper.wp Tryz.prog o a w K Q:=by
 obtain⟨i0,hi0,hz0,hz1,hz2⟩:=info_parts DU
 obtain⟨v',w',h1,h2,h3,-⟩:=run_append_own (P:=Tryz.prog) w base t o.type 64 i0 (.agg #[.int .i64 0,.string ⟨#[]⟩]) 2 24 htt hi0 hz0 hz1 hz2 rfl (by decide) v l.length (l.flatMap pcl) h ⟨g,0,none⟩ 1 c (pcl y) rfl hgg (If y) (by unfold maxLen;omega) (by omega) hb
 unfold Oper.wp execOp
 simp only [ho,resolve,invoke,builtin,Sem.run_bind,Sem.run_pure,Result.andThen_ok,List.map_toArray,List.map_cons,List.map_nil,hs,hx,h1]
 exact k v' w' (OwnP.onto (M:=[y]) (by simpa using h2) rfl) h3
end
section
open Go.ChangeShapes Go.WideShapes Go.ChangeAt Go.RowKit
def GP(d:ByteArray):ByteArray:=if 2001<d.size then d.extract 0 2001 else d
theorem DQ(d:ByteArray):(GP d).size≤2001:=by
 unfold GP;split
 ·rw [GF _ (by omega)];omega
 ·omega
def IE(p:Prt):Prt:=⟨p.n,GP p.data⟩
theorem Mf{p:Prt}(h:De p):De (IE p):=⟨h.1,h.2.1,by have:=DQ p.data;unfold maxLen;show(GP p.data).size≤_;omega⟩
def Iw(u:Upl):Upl:=⟨u.id,Cc u.key,(u.L.take 31).map IE⟩
def Le(l:List Upl):List Upl:=(l.take 11).map Iw
theorem Rt(l:List Upl):smL (Le l):=by
 refine⟨by rw [Le,List.length_map,List.length_take];omega,fun x hx=>?_⟩
 rw [Le,List.mem_map] at hx
 obtain⟨y,hy,rfl⟩:=hx
 refine⟨by have:=Bl y.key;show(Cc y.key).size≤1000;omega,by show((y.L.take 31).map IE).length≤1000;rw [List.length_map,List.length_take];omega,fun p hp=>?_⟩
 have hp2:p∈(y.L.take 31).map IE:=hp
 rw [List.mem_map] at hp2
 obtain⟨z,hz,rfl⟩:=hp2
 have:=DQ z.data
 show(GP z.data).size≤5000
 omega
theorem MX(p:Prt)(w:World)(hp:p.data.size≤maxLen):
  Calls Tryz.prog 73 #[prt p] w fun e w'=>e=.returned (prt (IE p))∧Q w w':=by
 obtain⟨n,d⟩:=p
 simp only at hp
 unfold maxLen at hp
 have q0:=(Q.refl w).alloc (.cells #[.int .i64 n,.string d] 64)
 have b1:Bx ((w.alloc (.cells #[.int .i64 n,.string d] 64)).alloc (.cells #[.int .i64 0,.string ⟨#[]⟩] 64)) w.heap.size 64 #[.int .i64 n,.string d]:=(Bx.new w _ _).alloc _
 have b2:Bx ((w.alloc (.cells #[.int .i64 n,.string d] 64)).alloc (.cells #[.int .i64 0,.string ⟨#[]⟩] 64)) (w.heap.size+1) 64 #[.int .i64 0,.string ⟨#[]⟩]:=by
  have:=Bx.new (w.alloc (.cells #[.int .i64 n,.string d] 64)) 64 #[.int .i64 0,.string ⟨#[]⟩]
  rw [World.size_alloc] at this;exact this
 have qq:=q0.alloc (.cells #[.int .i64 0,.string ⟨#[]⟩] 64)
 rw [prt,prt,IE]
 simp only
 by_cases h:2001<d.size
 ·have h':(2001:Int)<(d.size:Int):=by omega
  have HV:Hid (GP d=d.extract 0 2001):=AC (by rw [GP,if_pos h])
  go_enter Tryz.func73,Tryz.ntmps73
  go_wp2_with fail
  (try simp only [Exit.inBlock,Exit.then])
  refine bodyPost_ret (v:=.agg #[.int .i64 n,.string (d.extract 0 2001)]) ?_ rfl ⟨by rw [HV.out],(?_:Q w _)⟩
  ·simp [results,Tryz.results73,go_sem]
  ·exact((Q.refl w).alloc _).alloc _
 ·have h':¬ (2001:Int)<(d.size:Int):=by omega
  have HV:Hid (GP d=d):=AC (by rw [GP,if_neg h])
  go_enter Tryz.func73,Tryz.ntmps73
  go_wp2_with fail
  (try simp only [Exit.inBlock,Exit.then])
  refine bodyPost_ret (v:=.agg #[.int .i64 n,.string d]) ?_ rfl ⟨by rw [HV.out],(?_:Q w _)⟩
  ·simp [results,Tryz.results73,go_sem]
  ·exact((Q.refl w).alloc _).alloc _
end
section
open Go.ChangeShapes Go.WideShapes Go.ChangeAt Go.RowKit
def F1(base:Nat)(w:World)(p:Upl×Value):Prop:=okU p.1∧(∀ x∈p.1.L,De x)∧OwnP base w p.2 p.1.L
def RowF(base:Nat)(w:World)(v:Value)(l:List Upl):Prop:=∃ P:List (Upl×Value),P.map (·.1)=l∧RowU base w v P∧∀ p∈P,F1 base w p
theorem F1.one{base:Nat}{w:World}{p:Upl×Value}(h:F1 base w p):DC base w p:=⟨h.1,h.2.1,h.1.2.2,.inr h.2.2⟩
theorem RowF.own{base:Nat}{w:World}{v:Value}{l:List Upl}(h:RowF base w v l):OwnU base w v l:=by
 obtain⟨P,e,r,f⟩:=h
 exact⟨P,e,r,fun p hp=>(f p hp).one⟩
theorem RowF.nil(base:Nat)(w:World):RowF base w (.slice none 0 0) []:=⟨[],rfl,World.ownsRow_nil w _ _ _,by simp⟩
theorem RowF.on{base:Nat}{w w':World}{v:Value}{l:List Upl}(h:RowF base w v l)(q:Q w w'):RowF base w' v l:=by
 obtain⟨P,e,r,f⟩:=h
 exact⟨P,e,r.on q,fun p hp=>⟨(f p hp).1,(f p hp).2.1,(f p hp).2.2.on q⟩⟩
theorem RowF.form{base:Nat}{w:World}{v:Value}{l:List Upl}(h:RowF base w v l):∃ A c,v=.slice A l.length c:=h.own.form
theorem RowF.read{base:Nat}{w:World}{v:Value}{l:List Upl}(h:RowF base w v l)(hb:base≤w.heap.size):Upls w w.heap.size v l:=h.own.read hb
theorem RowF.set{base B i:Nat}{w:World}{v u:Value}{l:List Upl}(h:RowF base w v l)(hb:B<base):RowF base (w.setCell ⟨B,i,none⟩ u) v l:=by
 obtain⟨P,e,r,f⟩:=h
 exact⟨P,e,AS r hb,fun p hp=>⟨(f p hp).1,(f p hp).2.1,AS (f p hp).2.2 hb⟩⟩
theorem Ih:64≠107:=by decide
theorem OwnP.grownF{base:Nat}{w w':World}{v u:Value}{P:List (Upl×Value)}{L:List Prt}(h:OwnP base w u L)(r:RowU base w v P)(g:w.grownBy w' v.ownBlock):OwnP base w' u L:=by
 have hh:=World.ownsRow.kept h (row:=v.ownBlock) g
 refine hh ?_
 rcases h.2 with⟨rfl,-⟩ | ⟨g1,cap1,cur1,rfl,-,hg1,-⟩
 ·left;rfl
 ·right
  rcases r.2 with⟨rfl,-⟩ | ⟨g2,cap2,cur2,rfl,-,hg2,-⟩
  ·simp [Value.ownBlock]
  ·simp only [Value.ownBlock,ne_eq,Option.some.injEq]
   intro e
   subst e
   rw [hg1] at hg2
   injection hg2 with hg2
   injection hg2 with _ h2 _
   exact Ih h2
theorem CZ{ops:Array Oper}{rest:List Oper}{o:Oper}{a:Act}{Q:Exit→Act→World→Prop}(w:World)(hgd:o.guard=none)(s x:Operand)(t:TypeId)
  (htt:Tryz.prog.underlying t=some (.slice 107)) (ho:o.op=.call {callee:=.builtin .append,args:=#[s,x],argTypes:=#[t,t]})
  (base g:Nat) (v:Value) (l:List Upl) (p:Upl×Value) {c:Nat} (hs:a.eval s=v) (hx:a.eval x=.slice (some ⟨g,0,none⟩) 1 c) (hgg:∀ j u,(ucl p)[j]?=some u→w.cell? ((⟨g,0,none⟩:Addr).add j)=some u)
  (h:RowF base w v l) (hp:F1 base w p) (hb:base≤w.heap.size) (hl:l.length≤4000)
  (k:∀ v' w',RowF base w' v' (l ++ [p.1])→Below base w w'→wpList Tryz.prog ops Q rest (a.put o.dst v') w'):wpList Tryz.prog ops Q (o :: rest) a w:=by
 refine wpList_plain hgd fun K hK=>?_
 obtain⟨i0,hi0,hz0,hz1,hz2⟩:=info_parts EQ
 obtain⟨P,hP,r,f⟩:=h
 have hPl:P.length=l.length:=by rw [← hP,List.length_map]
 obtain⟨v',w',h1,h2,h3,-⟩:=run_append_own (P:=Tryz.prog) w base t o.type 107 i0 (.agg #[.int .u64 0,.string ⟨#[]⟩,.slice none 0 0]) 3 48 htt hi0 hz0 hz1 hz2 rfl (by decide) v P.length (P.flatMap ucl) r ⟨g,0,none⟩ 1 c (ucl p) rfl hgg (IM hp.one.2.shape) (by unfold maxLen;omega) (by omega) hb
 unfold Oper.wp execOp
 simp only [ho,resolve,invoke,builtin,Sem.run_bind,Sem.run_pure,Result.andThen_ok,List.map_toArray,List.map_cons,List.map_nil,hs,hx,h1]
 refine hK _ _ (k v' w' ⟨P ++ [p],by rw [List.map_append,hP];rfl,RowU.onto (R:=[p]) (by simpa using h2) rfl,fun q hq=>?_⟩ ((Below.refl base w).grown h3 hb fun k hk=>(World.ownsRow.lt r k hk).1))
 rcases List.mem_append.1 hq with hq | hq
 ·exact⟨(f q hq).1,(f q hq).2.1,(f q hq).2.2.grownF r h3⟩
 ·obtain rfl:q=p:=by simpa using hq
  exact⟨hp.1,hp.2.1,hp.2.2.grownF r h3⟩
end
section
open Go.ChangeShapes Go.WideShapes Go.ChangeAt Go.RowKit
theorem NH{l:List Upl}{i:Nat}(h:i<l.length):(l.take (i+1)).map Iw=(l.take i).map Iw ++ [Iw l[i]]:=by
 rw [List.take_succ_eq_append_getElem h,List.map_append];rfl
theorem MZ{L:List Prt}{i:Nat}(h:i<L.length):(L.take (i+1)).map IE=(L.take i).map IE ++ [IE L[i]]:=by
 rw [List.take_succ_eq_append_getElem h,List.map_append];rfl
theorem NF(l:List Upl)(v:Value)(w:World)(hl:l.length≤maxLen)(ht:Upls w w.heap.size v l):
  Calls Tryz.prog 31 #[v] w fun e w'=>∃ v',e=.returned v'∧RowF w.heap.size w' v' (Le l)∧Q w w':=by
 unfold maxLen at hl
 have HT:=AC ht
 obtain⟨A,c,rfl⟩:=ht.form
 obtain⟨N,hn⟩:∃ N,l.length=N:=⟨_,rfl⟩
 rw [hn] at HT hl ⊢
 have HN:=AC hn
 clear ht hn
 go_enter Tryz.func31,Tryz.ntmps31
 go_wp2_with fail
 go_loopw [3,4,5,6] (fun O I _ _ wr=>∃ (i:Nat) (A5:Option Addr) (n5 c5:Nat) (M:List Upl),O=.slice A5 n5 c5∧i≤N∧i≤11∧I=.int .i64 i∧M.length=i∧RowF w.heap.size wr (.slice A5 n5 c5) M∧Q w wr∧Hid (M=(l.take i).map Iw)) (fun _ I _ _ _=>11 - (intOf I).toNat)
 case atStart=>exact⟨0,none,0,0,[],rfl,Nat.zero_le _,Nat.zero_le _,rfl,rfl,RowF.nil _ _,Q.refl _,AC (by simp)⟩
 case round=>
  obtain⟨i,A5,n5,c5,M,rfl,hil,hi11,rfl,hM,own,q,HM⟩:=hrel
  obtain⟨wo,hwo⟩:∃ x,x=wr:=⟨_,rfl⟩
  subst hwo
  by_cases hlt:i<N
  ·by_cases h11:i<11
   ·have hltL:i<l.length:=by have:=HN.out;omega
    obtain⟨a,c',hv,ha,A2,c2,hps,hat⟩:=HT.out.pick i hltL
    injection hv with e1 e2 e3
    subst e1 e3
    have hilt:(i:Int)<(N:Int):=by omega
    have hi11':(i:Int)<11:=by omega
    have HX:Hid (M ++ [Iw l[i]]=(l.take (i+1)).map Iw):=AC (by rw [HM.out,NH hltL])
    have hok:=HT.out.okAll _ (List.getElem_mem hltL)
    have hin:=HT.out.okIn _ (List.getElem_mem hltL)
    obtain⟨x,hx⟩:∃ x,x=l[i]:=⟨_,rfl⟩
    rw [← hx] at hat hps HX hok hin
    obtain⟨xi,key,L⟩:=x
    simp only at hat hps hok hin
    have HPS:=AC hps
    have HIN:=AC hin
    have HAT:Hid (∀ d,Q w d→d.cell? (a.add (i*3))=some (.int .u64 (xi:Nat))∧d.cell? ⟨(a.add (i*3)).block,(a.add (i*3)).off+1,none⟩=some (.string key)∧d.cell? ⟨(a.add (i*3)).block,(a.add (i*3)).off+2,none⟩=some (.slice A2 L.length c2)):=AC hat
    obtain⟨n,hn⟩:∃ n,L.length=n:=⟨_,rfl⟩
    rw [hn] at HAT HPS
    have HNL:=AC hn
    have hkey:key.size≤maxLen:=hok.2.1
    have hid:xi<18446744073709551616:=hok.1
    have hnm:n≤maxLen:=by rw [← hn];exact hok.2.2
    unfold maxLen at hnm
    have K:=AC fun d=>EV key d hkey
    have HOKX:=AC hok
    clear hat hps hin hx e2 hn hok
    have KF:Hid (∀ b,Q wo b→(fun W=>W.cell? (a.add (i*3))=some (.int .u64 (xi:Nat))∧W.cell? ⟨(a.add (i*3)).block,(a.add (i*3)).off+1,none⟩=some (.string key)∧Q wo W) b):=AC fun b qb=>⟨(HAT.out b (q.trans qb)).1,(HAT.out b (q.trans qb)).2.1,qb⟩
    obtain⟨key',hk'⟩:∃ k,k=Cc key:=⟨_,rfl⟩
    rw [← hk'] at K
    have HK':=AC hk'
    clear hk'
    have K0:=K
    clear K
    go_upto_region 5 with fail
    go_cut [5] from 17 to 28 (fun U wz=>U=.pointer (some ⟨wo.heap.size,0,none⟩)∧Bx wz wo.heap.size 107 #[.int .u64 (xi:Nat),.string key',.slice none 0 0]∧Q wo wz)
    case first=>
     refine wp_region_held_drew (S:=(fun W=>W.cell? (a.add (i*3))=some (.int .u64 (xi:Nat))∧W.cell? ⟨(a.add (i*3)).block,(a.add (i*3)).off+1,none⟩=some (.string key)∧Q wo W)) (by kernel_rfl) (KF.out _ (Q.refl wo).drew) (fun hHeld=>?_)
     refine tkV 0 ?_
     refine tkV 1 ?_
     refine tkV 2 ?_
     refine tkV 3 ?_
     refine tkV 4 ?_
     refine tkV 5 ?_
     refine tkV 6 ?_
     refine tkV 7 ?_
     refine tkV 8 ?_
     refine tkV 9 ?_
     refine aR [10,12] ?_
     refine aC rfl (fun K hK=>?_) (aC rfl (fun K hK=>?_) aN)
     ·go_simp
      go_at_call 22
      refine(K0.out _).mono ?_
      rintro e w1 ⟨rfl,rfl⟩
      refine hK.out _ _ (KF.out _ (Q.refl wo).drew) (fun hHeld=>?_)
      clear hK K
      refine pg ?_
      refine tkV 11 ?_
      refine aR [12] ?_
      refine aC rfl (fun K hK=>?_) aN
      go_simp
      refine hK.out _ _ (KF.out _ ((Q.refl wo).alloc _).drew) (fun hHeld=>?_)
      clear hK K
      refine pg ?_
      refine aR [13] ?_
      refine aC rfl (fun K hK=>?_) aN
      go_simp
      refine hK.out _ _ (KF.out _ ((Q.refl wo).alloc _).drew) (fun hHeld=>?_)
      clear hK K
      refine pg ?_
      refine wpAnyH_done (by kernel_rfl) ?_ _
      go_wp2_with fail
      go_meet
      exact⟨rfl,(Bx.new wo _ _).on (Q.refl _).drew,((Q.refl wo).alloc _).drew⟩
     ·go_simp
      refine hK.out _ _ (KF.out _ ((Q.refl wo).alloc _).drew) (fun hHeld=>?_)
      clear hK K
      refine pg ?_
      refine aR [10] ?_
      refine aC rfl (fun K hK=>?_) aN
      go_simp
      go_at_call 22
      refine(K0.out _).mono ?_
      rintro e w1 ⟨rfl,rfl⟩
      refine hK.out _ _ (KF.out _ ((Q.refl wo).alloc _).drew) (fun hHeld=>?_)
      clear hK K
      refine pg ?_
      refine tkV 11 ?_
      refine aR [13] ?_
      refine aC rfl (fun K hK=>?_) aN
      go_simp
      refine hK.out _ _ (KF.out _ ((Q.refl wo).alloc _).drew) (fun hHeld=>?_)
      clear hK K
      refine pg ?_
      refine wpAnyH_done (by kernel_rfl) ?_ _
      go_wp2_with fail
      go_meet
      exact⟨rfl,(Bx.new wo _ _).on (Q.refl _).drew,((Q.refl wo).alloc _).drew⟩
    case rest=>
     rename_i U wz
     obtain⟨rfl,bx,qz⟩:=hcut
     clear KF
     go_wp2_with fail
     go_loopw [6] (fun J wr=>∃ (k:Nat) (A6:Option Addr) (n6 c6:Nat) (Y:List Prt),k≤n∧k≤31∧J=.int .i64 k∧Y.length=k∧Bx wr wo.heap.size 107 #[.int .u64 (xi:Nat),.string key',.slice A6 n6 c6]∧OwnP (wo.heap.size+1) wr (.slice A6 n6 c6) Y∧Q wo wr∧Hid (Y=(L.take k).map IE)) (fun J _=>31 - (intOf J).toNat)
     case atStart=>exact⟨0,none,0,0,[],Nat.zero_le _,Nat.zero_le _,rfl,rfl,bx,OwnP.nil _ _,qz,AC (by simp)⟩
     case round=>
      obtain⟨k,A6,n6,c6,Y,hkn,hk31,rfl,hY,bx,own2,qy,HY⟩:=hrel
      have x2:=bx.cell 2
      simp only [List.getElem?_toArray,List.getElem?_cons_zero,List.getElem?_cons_succ] at x2
      have u2:=(HAT.out _ (q.trans qy)).2.2
      by_cases hkl:k<n
      ·by_cases hk3:k<31
       ·have hkL:k<L.length:=by have:=HNL.out;omega
        obtain⟨b,c3,hv3,hb,hokp,hbt⟩:=HPS.out.pick k hkL
        injection hv3 with f1 f2 f3
        subst f1 f3
        have hklt:(k:Int)<(n:Int):=by omega
        have hk3':(k:Int)<31:=by omega
        have HY2:Hid (Y ++ [IE L[k]]=(L.take (k+1)).map IE):=AC (by rw [HY.out,MZ hkL])
        obtain⟨y,hy⟩:∃ y,y=L[k]:=⟨_,rfl⟩
        rw [← hy] at hbt HY2 hokp
        obtain⟨yn,yd⟩:=y
        have ON1:=AC fun d=>MX ⟨yn,yd⟩ d hokp.2.2
        rw [prt,prt] at ON1
        simp only at ON1
        obtain⟨e1n,e1d,he1⟩:∃ a b,IE ⟨yn,yd⟩=⟨a,b⟩:=⟨_,_,rfl⟩
        rw [he1] at ON1 HY2
        simp only at ON1
        have KF:Hid (∀ d,Bx d wo.heap.size 107 #[.int .u64 (xi:Nat),.string key',.slice A6 n6 c6]→Q wo d→(fun W=>Bx W wo.heap.size 107 #[.int .u64 (xi:Nat),.string key',.slice A6 n6 c6]∧W.cell? ⟨(a.add (i*3)).block,(a.add (i*3)).off+2,none⟩=some (.slice (some b) n c2)∧W.cell? (b.add (k*2))=some (.int .i64 yn)∧W.cell? ⟨(b.add (k*2)).block,(b.add (k*2)).off+1,none⟩=some (.string yd)∧Q wo W) d):=AC fun d hd qd=>⟨hd,(HAT.out _ (q.trans qd)).2.2,(hbt _ (q.trans qd)).1,(hbt _ (q.trans qd)).2,qd⟩
        clear hbt hy f2 hokp he1
        have bx9:=bx.on (Q.refl wr).drew
        have own9:=own2.on (Q.refl wr).drew
        have q9:=qy.drew
        go_wp2_with fail
        refine Aw (F:=(fun W=>Bx W wo.heap.size 107 #[.int .u64 (xi:Nat),.string key',.slice A6 n6 c6]∧W.cell? ⟨(a.add (i*3)).block,(a.add (i*3)).off+2,none⟩=some (.slice (some b) n c2)∧W.cell? (b.add (k*2))=some (.int .i64 yn)∧W.cell? ⟨(b.add (k*2)).block,(b.add (k*2)).off+1,none⟩=some (.string yd)∧Q wo W)) (st:=14) (by kernel_rfl) (KF.out _ bx9 q9) (fun hTill=>?_)
        refine AL (i:=0) (o:=_) (v:=?_) rfl (by kernel_rfl) (by kernel_rfl) (by kernel_rfl) (by kernel_rfl) (by rfl) (fun _ _ _ h=>h) (Or.inl ⟨by rfl,?_⟩) (by assumption) ?_
        rotate_left
        ·(intro wx hSw;skip;go_simp;(try with_reducible rfl))
        refine pg ?_
        refine AL (i:=1) (o:=_) (v:=?_) rfl (by kernel_rfl) (by kernel_rfl) (by kernel_rfl) (by kernel_rfl) (by rfl) (fun _ _ _ h=>h) (Or.inl ⟨by rfl,?_⟩) (by assumption) ?_
        rotate_left
        ·(intro wx hSw;have hz:=hSw.1.cell 2;simp only [List.getElem?_toArray,List.getElem?_cons_zero,List.getElem?_cons_succ] at hz;have hz1:=hSw.2.1;have hz2:=hSw.2.2.1;have hz3:=hSw.2.2.2.1;go_simp;(try with_reducible rfl))
        refine pg ?_
        refine AL (i:=2) (o:=_) (v:=?_) rfl (by kernel_rfl) (by kernel_rfl) (by kernel_rfl) (by kernel_rfl) (by rfl) (fun _ _ _ h=>h) (Or.inl ⟨by rfl,?_⟩) (by assumption) ?_
        rotate_left
        ·(intro wx hSw;skip;go_simp;(try with_reducible rfl))
        refine pg ?_
        refine AL (i:=3) (o:=_) (v:=?_) rfl (by kernel_rfl) (by kernel_rfl) (by kernel_rfl) (by kernel_rfl) (by rfl) (fun _ _ _ h=>h) (Or.inl ⟨by rfl,?_⟩) (by assumption) ?_
        rotate_left
        ·(intro wx hSw;skip;go_simp;(try with_reducible rfl))
        refine pg ?_
        refine AL (i:=4) (o:=_) (v:=?_) rfl (by kernel_rfl) (by kernel_rfl) (by kernel_rfl) (by kernel_rfl) (by rfl) (fun _ _ _ h=>h) (Or.inl ⟨by rfl,?_⟩) (by assumption) ?_
        rotate_left
        ·(intro wx hSw;skip;go_simp;(try with_reducible rfl))
        refine pg ?_
        refine AL (i:=5) (o:=_) (v:=?_) rfl (by kernel_rfl) (by kernel_rfl) (by kernel_rfl) (by kernel_rfl) (by rfl) (fun _ _ _ h=>h) (Or.inl ⟨by rfl,?_⟩) (by assumption) ?_
        rotate_left
        ·(intro wx hSw;skip;go_simp;(try with_reducible rfl))
        refine pg ?_
        refine AL (i:=6) (o:=_) (v:=?_) rfl (by kernel_rfl) (by kernel_rfl) (by kernel_rfl) (by kernel_rfl) (by rfl) (fun _ _ _ h=>h) (Or.inl ⟨by rfl,?_⟩) (by assumption) ?_
        rotate_left
        ·(intro wx hSw;have hz:=hSw.1.cell 2;simp only [List.getElem?_toArray,List.getElem?_cons_zero,List.getElem?_cons_succ] at hz;have hz1:=hSw.2.1;have hz2:=hSw.2.2.1;have hz3:=hSw.2.2.2.1;go_simp;(try with_reducible rfl))
        refine pg ?_
        refine AL (i:=7) (o:=_) (v:=?_) rfl (by kernel_rfl) (by kernel_rfl) (by kernel_rfl) (by kernel_rfl) (by rfl) (fun _ _ _ h=>h) (Or.inl ⟨by rfl,?_⟩) (by assumption) ?_
        rotate_left
        ·(intro wx hSw;skip;go_simp;(try with_reducible rfl))
        refine pg ?_
        refine AL (i:=8) (o:=_) (v:=?_) rfl (by kernel_rfl) (by kernel_rfl) (by kernel_rfl) (by kernel_rfl) (by rfl) (fun _ _ _ h=>h) (Or.inl ⟨by rfl,?_⟩) (by assumption) ?_
        rotate_left
        ·(intro wx hSw;skip;go_simp;(try with_reducible rfl))
        refine pg ?_
        refine AL (i:=9) (o:=_) (v:=?_) rfl (by kernel_rfl) (by kernel_rfl) (by kernel_rfl) (by kernel_rfl) (by rfl) (fun _ _ _ h=>h) (Or.inl ⟨by rfl,?_⟩) (by assumption) ?_
        rotate_left
        ·(intro wx hSw;have hz:=hSw.1.cell 2;simp only [List.getElem?_toArray,List.getElem?_cons_zero,List.getElem?_cons_succ] at hz;have hz1:=hSw.2.1;have hz2:=hSw.2.2.1;have hz3:=hSw.2.2.2.1;go_simp;(try with_reducible rfl))
        refine pg ?_
        refine Af (i:=10) (o:=_) (by kernel_rfl) rfl (fun K hK=>?_)
        go_simp
        go_at_call 73
        refine(ON1.out _).mono ?_
        rintro e w4 ⟨rfl,q4⟩
        have bx10:=bx9.on q4
        have own10:=own9.on q4
        have q10:=q9.trans q4
        refine hK.out _ _ (KF.out _ bx10 q10) (fun hTill=>?_)
        clear hK K
        refine pg ?_
        refine Af (i:=11) (o:=_) (by kernel_rfl) rfl (fun K hK=>?_)
        go_simp
        have q11:=q10.alloc (.cells #[.int .i64 e1n,.string e1d] 64)
        have bx11:=bx10.alloc (.cells #[.int .i64 e1n,.string e1d] 64)
        have own11:=own10.on ((Q.refl _).alloc (.cells #[.int .i64 e1n,.string e1d] 64))
        refine hK.out _ _ (KF.out _ bx11 q11) (fun hTill=>?_)
        clear hK K
        refine pg ?_
        refine Af (i:=12) (o:=_) (by kernel_rfl) rfl (fun K hK=>?_)
        rw [if_pos (by rfl)]
        refine Ce _ _ _ 105 Tryz.underlying105 rfl (wo.heap.size+1) _ _ _ ⟨e1n,e1d⟩ rfl rfl (Bo _ ⟨e1n,e1d⟩ _) own11 ?hb ?hl ?_
        case hb=>have h5:=bx10.lt;simp;omega
        case hl=>omega
        intro v8 w8 o8 g8
        have q12:Q wo w8:=q11.grown g8 (by have h5:=bx10.lt;simp;omega) (fun k hk=>Nat.le_of_succ_le (World.ownsRow.lt own11 k hk).1)
        have bx12:=bx11.same (g8.block _ bx11.lt (fun e=>by have:=(World.ownsRow.lt own11 _ e.symm).1;omega))
        obtain⟨A8,n8,c8,rfl⟩:∃ A n c,v8=.slice A n c:=by obtain⟨A,c,e⟩:=o8.form;exact⟨A,_,c,e⟩
        refine hK.out _ _ (KF.out _ bx12 q12) (fun hTill=>?_)
        clear hK K
        refine pg ?_
        have z2:=bx12.cell 2
        have zf:=bx12.frozen 2
        simp only [List.getElem?_toArray,List.getElem?_cons_zero,List.getElem?_cons_succ] at z2
        refine AL (i:=13) (o:=_) (v:=?_) rfl (by kernel_rfl) (by kernel_rfl) (by kernel_rfl) (by kernel_rfl) (by rfl) (fun _ _ _ h=>h) (Or.inl ⟨by rfl,?_⟩) (by assumption) ?_
        rotate_left
        ·(intro wx hSw;skip;go_simp;(try with_reducible rfl))
        refine pg ?_
        refine Ah (i:=14) (o:=_) (by kernel_rfl) rfl (by rfl) (fun K hK=>?_)
        go_simp
        refine hK.out _ _ ?_
        clear hK K
        refine pg ?_
        refine BR (by kernel_rfl) ?_ _
        have bxE:=bx12.set 2 (.slice A8 n8 c8)
        have oE:OwnP (wo.heap.size+1) _ _ _:=AS (b:=wo.heap.size) (i:=2) (u:=.slice A8 n8 c8) o8 (by omega)
        have qE:=Q.set q12 (Nat.le_refl _) (k:=2) (.slice A8 n8 c8)
        generalize w8.setCell ⟨wo.heap.size,2,none⟩ (.slice A8 n8 c8)=wE at bxE oE qE ⊢
        clear KF bx9 own9 q9 bx10 own10 q10 bx11 own11 q11 o8 g8 q12 bx12 z2 zf
        go_wp2_with fail
        go_roundw
        case rel=>exact⟨k+1,_,_,_,_,by omega,by omega,by go_num,by simp [hY],bxE,oE,qE,HY2⟩
        case measure=>simp [intOf];omega
       ·have hk3':¬ (k:Int)<31:=by omega
        have hklt:(k:Int)<(n:Int):=by omega
        have HYe:Hid (Y=(L.take 31).map IE):=AC (by rw [HY.out,show k=31 by omega])
        have f0:=bx.cell 0
        have f1:=bx.cell 1
        simp only [List.getElem?_toArray,List.getElem?_cons_zero,List.getElem?_cons_succ] at f0 f1
        have ownq:=own.on qy
        have HP1:Hid (∀ d,Q wr d→F1 w.heap.size d ((⟨xi,key',Y⟩:Upl),.slice A6 n6 c6)):=AC fun d qd=>⟨⟨hid,by have:=HK'.out;rw [this];have:=Bl key;unfold maxLen;show(Cc key).size≤_;omega,by unfold maxLen;show Y.length≤_;omega⟩,(fun p hp=>by rw [HYe.out] at hp;obtain⟨z,hz,rfl⟩:=List.mem_map.1 hp;exact Mf (HIN.out _ (List.mem_of_mem_take hz))),OwnP.low (own2.on qd) (by have:=q.size;omega)⟩
        have ownb:=ownq.on ((Q.refl wr).alloc (.cells #[.int .u64 (xi:Nat),.string key',.slice A6 n6 c6] 107))
        go_wp2_with (at_builtin;refine CZ _ rfl _ _ 23 Tryz.underlying23 rfl w.heap.size wr.heap.size _ M (⟨xi,key',Y⟩,.slice A6 n6 c6) rfl rfl (An wr (⟨xi,key',Y⟩,.slice A6 n6 c6) 107) ownb (HP1.out _ ((Q.refl wr).alloc _)) ?hb ?hl ?_;(case hb=>have:=(q.trans qy).size;simp;omega);(case hl=>omega);intro v6 w6 o6 g6)
        obtain⟨A7,c7,rfl⟩:=o6.form
        have q7:Q w w6:=Below.trans (((q.trans qy)).alloc _) g6
        have HXe:Hid (M ++ [⟨xi,key',Y⟩]=(l.take (i+1)).map Iw):=AC (by rw [← HX.out,Iw,HYe.out,HK'.out])
        go_wp2_with fail
        go_roundw
        case rel=>exact⟨i+1,_,_,_,_,rfl,by omega,by omega,by go_num,by simp [hM],o6,q7,HXe⟩
        case measure=>simp [intOf];omega
      ·have hklt:¬ (k:Int)<(n:Int):=by omega
       have HYe:Hid (Y=(L.take 31).map IE):=AC (by have h3:=HNL.out;rw [HY.out,List.take_of_length_le (by omega),List.take_of_length_le (by omega)])
       have f0:=bx.cell 0
       have f1:=bx.cell 1
       simp only [List.getElem?_toArray,List.getElem?_cons_zero,List.getElem?_cons_succ] at f0 f1
       have ownq:=own.on qy
       have HP1:Hid (∀ d,Q wr d→F1 w.heap.size d ((⟨xi,key',Y⟩:Upl),.slice A6 n6 c6)):=AC fun d qd=>⟨⟨hid,by have:=HK'.out;rw [this];have:=Bl key;unfold maxLen;show(Cc key).size≤_;omega,by unfold maxLen;show Y.length≤_;omega⟩,(fun p hp=>by rw [HYe.out] at hp;obtain⟨z,hz,rfl⟩:=List.mem_map.1 hp;exact Mf (HIN.out _ (List.mem_of_mem_take hz))),OwnP.low (own2.on qd) (by have:=q.size;omega)⟩
       have ownb:=ownq.on ((Q.refl wr).alloc (.cells #[.int .u64 (xi:Nat),.string key',.slice A6 n6 c6] 107))
       go_wp2_with (at_builtin;refine CZ _ rfl _ _ 23 Tryz.underlying23 rfl w.heap.size wr.heap.size _ M (⟨xi,key',Y⟩,.slice A6 n6 c6) rfl rfl (An wr (⟨xi,key',Y⟩,.slice A6 n6 c6) 107) ownb (HP1.out _ ((Q.refl wr).alloc _)) ?hb ?hl ?_;(case hb=>have:=(q.trans qy).size;simp;omega);(case hl=>omega);intro v6 w6 o6 g6)
       obtain⟨A7,c7,rfl⟩:=o6.form
       have q7:Q w w6:=Below.trans (((q.trans qy)).alloc _) g6
       have HXe:Hid (M ++ [⟨xi,key',Y⟩]=(l.take (i+1)).map Iw):=AC (by rw [← HX.out,Iw,HYe.out,HK'.out])
       go_wp2_with fail
       go_roundw
       case rel=>exact⟨i+1,_,_,_,_,rfl,by omega,by omega,by go_num,by simp [hM],o6,q7,HXe⟩
       case measure=>simp [intOf];omega
   ·have hn11:¬ (i:Int)<11:=by omega
    have hilt:(i:Int)<(N:Int):=by omega
    have HV:Hid (M=Le l):=AC (by rw [HM.out,Le];congr 2;omega)
    go_wp2
    go_ret
    exact⟨_,rfl,by rw [← HV.out];exact own,q⟩
  ·have hilt:¬ (i:Int)<(N:Int):=by omega
   have HV:Hid (M=Le l):=AC (by
    have hN:=HN.out
    rw [HM.out,Le,List.take_of_length_le (by omega),List.take_of_length_le (by omega)])
   go_wp2
   go_ret
   exact⟨_,rfl,by rw [← HV.out];exact own,q⟩
theorem NG(l:List Upl)(v:Value)(w:World)(hl:l.length≤maxLen)(ht:Upls w w.heap.size v l):
  Calls Tryz.prog 31 #[v] w fun e w'=>∃ v',e=.returned v'∧Upls w' w'.heap.size v' (Le l)∧Q w w':=
 (NF l v w hl ht).mono fun _ _ ⟨u,h1,h2,h3⟩=>⟨u,h1,h2.read h3.size,h3⟩
end
end Go.Proofs.YtjjlbbfhmpbneaaGreat
