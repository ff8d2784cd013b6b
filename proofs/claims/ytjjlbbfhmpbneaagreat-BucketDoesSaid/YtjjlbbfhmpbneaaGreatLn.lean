/-
  Contract of with: the parts among which a part is laid. A region that draws its order, loads cells, calls, and at its end stores into the cells that it has loaded: what is loaded is known till operation st, the first of the stores, comes up. A region that stores at its end (Until): an operation may be taken first, too, if the first of the stores waits for it by way of others.
-/
import Derived.Test.YtjjlbbfhmpbneaaGreatLm
import Derived.Test.YtjjlbbfhmpbneaaGreatLa
import Derived.Deep.RegionHeld
namespace Go.Proofs.YtjjlbbfhmpbneaaGreat
open AllReadyH renaming cons → aC, nil → aN
open Lib renaming hid → AC
set_option maxHeartbeats 16000000
set_option maxRecDepth 100000
set_option linter.unusedVariables false
set_option linter.unusedSimpArgs false
section
open Go.ChangeShapes Go.WideShapes Go.ChangeAt Go.RowKit
def Aj(L:List Prt)(p:Prt):List Prt:=L.filter (fun x=>decide (x.n<p.n)) ++ [p]++L.filter (fun x=>decide (p.n<x.n))
theorem Es{L:List Prt}(h:okL L)(i j:Nat)(hij:i<j)(hj:j<L.length):(L[i]'(by omega)).n<L[j].n:=by
 obtain⟨d,rfl⟩:∃ d,j=i+d+1:=⟨j - i - 1,by omega⟩
 induction d with
 | zero=>exact(h (i+1) hj).2 i rfl
 | succ d ih=>exact Int.lt_trans (ih (by omega) (by omega)) ((h (i+(d+1)+1) hj).2 (i+d+1) rfl)
theorem Dp{L:List Prt}{i:Nat}{y:Int}(h:okL L)(hi:i≤L.length)(h1:∀ j (hj:j<i),(L[j]'(by omega)).n<y)(h2:∀ hi:i<L.length,¬ L[i].n<y):L.filter (fun x=>decide (x.n<y))=L.take i:=by
 have e:L=L.take i++L.drop i:=(List.take_append_drop i L).symm
 conv=>lhs;rw [e]
 rw [List.filter_append,List.filter_eq_self.2 (fun x hx=>?_),List.filter_eq_nil_iff.2 (fun x hx=>?_),List.append_nil]
 ·obtain⟨j,hj,rfl⟩:=List.getElem_of_mem hx
  rw [List.length_drop] at hj
  rw [List.getElem_drop]
  have h3:=h2 (by omega)
  by_cases e:j=0
  ·subst e;simpa using h3
  ·have:=Es h i (i+j) (by omega) (by omega)
   simp;omega
 ·obtain⟨j,hj,rfl⟩:=List.getElem_of_mem hx
  rw [List.length_take] at hj
  rw [List.getElem_take]
  simpa using h1 j (by omega)
theorem E8{L:List Prt}{i b:Nat}{y:Int}(h:okL L)(hi:b≤L.length)(h1:∀ j (hj:j<b),¬ y<(L[j]'(by omega)).n)(h2:∀ hb:b<L.length,y<L[b].n):L.filter (fun x=>decide (y<x.n))=L.drop b:=by
 have e:L=L.take b++L.drop b:=(List.take_append_drop b L).symm
 conv=>lhs;rw [e]
 rw [List.filter_append,List.filter_eq_nil_iff.2 (fun x hx=>?_),List.filter_eq_self.2 (fun x hx=>?_),List.nil_append]
 ·obtain⟨j,hj,rfl⟩:=List.getElem_of_mem hx
  rw [List.length_drop] at hj
  rw [List.getElem_drop]
  have h3:=h2 (by omega)
  by_cases e:j=0
  ·subst e;simpa using h3
  ·have:=Es h b (b+j) (by omega) (by omega)
   simp;omega
 ·obtain⟨j,hj,rfl⟩:=List.getElem_of_mem hx
  rw [List.length_take] at hj
  rw [List.getElem_take]
  simpa using h1 j (by omega)
theorem Ln{L:List Prt}{p:Prt}(h:okL L)(h1:∀ j (hj:j<L.length),L[j].n<p.n):L.take L.length ++ [p]++L.drop L.length=Aj L p:=by
 rw [Aj,Dp h (Nat.le_refl _) (fun j hj=>h1 j hj) (fun k=>absurd k (by omega)),E8 (i:=0) h (Nat.le_refl _) (fun j hj=>by have:=h1 j hj;omega) (fun k=>absurd k (by omega))]
theorem OP{L:List Prt}{p:Prt}{i:Nat}(h:okL L)(hi:i<L.length)(h1:∀ j (hj:j<i),(L[j]'(by omega)).n<p.n)(he:L[i].n=p.n):L.take i ++ [p]++L.drop (i+1)=Aj L p:=by
 rw [Aj,Dp h (by omega) h1 (fun _=>by omega),E8 (i:=0) (b:=i+1) h (by omega) (fun j hj=>?_) (fun k=>?_)]
 ·by_cases e:j=i
  ·subst e;omega
  ·have:=h1 j (by omega);omega
 ·have:=Es h i (i+1) (by omega) k;omega
theorem OO{L:List Prt}{p:Prt}{i:Nat}(h:okL L)(hi:i<L.length)(h1:∀ j (hj:j<i),(L[j]'(by omega)).n<p.n)(he:p.n<L[i].n):L.take i ++ [p]++L.drop i=Aj L p:=by
 rw [Aj,Dp h (by omega) h1 (fun _=>by omega),E8 (i:=0) h (by omega) (fun j hj=>by have:=h1 j hj;omega) (fun k=>he)]
theorem Cv(w:World)(p:Prt)(h:De p):Prts (w.alloc (.cells #[.int .i64 p.n,.string p.data] 64)) (w.alloc (.cells #[.int .i64 p.n,.string p.data] 64)).heap.size (.slice (some ⟨w.heap.size,0,none⟩) 1 1) [p]:=by
 refine⟨_,_,rfl,Nat.le_refl _,(by simp),fun y hy=>?_,fun k hk=>?_⟩
 ·obtain rfl:y=p:=by simpa using hy
  exact h
 ·have k0:k=0:=by simpa using hk
  subst k0
  refine⟨_,rfl,by simp,?_,?_⟩
  ·simp [Addr.add]
  ·simp [Addr.add]
theorem Qv(L:List Prt)(a:Addr)(n c:Nat)(x:Int)(d:ByteArray)(w:World)(hn:L.length=n)(ho:okL L)(hp:De ⟨x,d⟩)(hl:L.length≤1000)(ht:Prts w w.heap.size (.slice (some a) n c) L):
  Calls Tryz.prog 145 #[.slice (some a) n c,.agg #[.int .i64 x,.string d]] w fun e w'=>∃ v',e=.returned v'∧OwnP w.heap.size w' v' (Aj L ⟨x,d⟩)∧Q w w':=by
 have HN:=AC hn
 have HT:=AC ht
 have HO:=AC ho
 have hnl:n≤1000:=by omega
 have hnc:n≤c:=by
  obtain⟨A',c',e,e0,-⟩:=ht
  injection e with e1 e2 e3
  omega
 have q00:=Q.refl (w.alloc (.cells #[.int .i64 x,.string d] 64))
 have QW:=AC ((Q.refl w).alloc (.cells #[.int .i64 x,.string d] 64))
 have KQ:Hid (∀ b,Q (w.alloc (.cells #[.int .i64 x,.string d] 64)) b→(fun w'=>w'.cell? ⟨w.heap.size,0,none⟩=some (.int .i64 x)∧w'.cell? ⟨w.heap.size,1,none⟩=some (.string d)∧Q (w.alloc (.cells #[.int .i64 x,.string d] 64)) w') b):=AC fun b q=>⟨(Ak q).1,(Ak q).2,q⟩
 clear hn ht ho hl
 go_enter Tryz.func145,Tryz.ntmps145
 go_wp2_with fail
 go_loopw [5] (fun I wr=>∃ i:Nat,i≤n∧I=.int .i64 i∧Q (w.alloc (.cells #[.int .i64 x,.string d] 64)) wr∧Hid (∀ j (hj:j<i) (hl:j<L.length),L[j].n<x)) (fun I _=>n - (intOf I).toNat)
 case atStart=>exact⟨0,Nat.zero_le _,rfl,q00,AC (fun j h=>by omega)⟩
 case round=>
  obtain⟨i,hil,rfl,q,HK⟩:=hrel
  clear q00
  by_cases hlt:i<n
  ·have hltL:i<L.length:=by have:=HN.out;omega
   obtain⟨a',c',hv,ha,-,hat⟩:=HT.out.pick i hltL
   injection hv with e1 e2 e3
   injection e1 with e1
   subst e1
   have hilt:(i:Int)<(n:Int):=by omega
   obtain⟨y,hy⟩:∃ y,y=(L[i]'hltL).n:=⟨_,rfl⟩
   have KI:Hid (∀ b,Q (w.alloc (.cells #[.int .i64 x,.string d] 64)) b→(fun w'=>w'.cell? ⟨w.heap.size,0,none⟩=some (.int .i64 x)∧w'.cell? (a.add (i*2))=some (.int .i64 y)∧Q (w.alloc (.cells #[.int .i64 x,.string d] 64)) w') b):=AC fun b q=>⟨(Ak q).1,by rw [hy];exact(hat b (QW.out.trans q)).1,q⟩
   have HY:=AC hy
   clear hat hy e2 e3
   by_cases hxy:y<x
   ·have HK2:Hid (∀ j (hj:j<i+1) (hl:j<L.length),L[j].n<x):=AC (fun j hj hl=>by
     by_cases e:j=i
     ·subst e;rw [← HY.out];exact hxy
     ·exact HK.out j (by omega) hl)
    go_wp2_with fail
    refine wp_region_held_drew (S:=(fun w'=>w'.cell? ⟨w.heap.size,0,none⟩=some (.int .i64 x)∧w'.cell? (a.add (i*2))=some (.int .i64 y)∧Q (w.alloc (.cells #[.int .i64 x,.string d] 64)) w')) (by kernel_rfl) (KI.out _ q.drew) (fun hHeld=>?_)
    refine tkV 0 ?_
    refine tkV 1 ?_
    refine tkV 2 ?_
    refine tkB 3 (.bool true) ?_
    refine tkV 4 ?_
    refine tkV 5 ?_
    refine tkV 6 ?_
    refine tkV 7 ?_
    refine tkV 8 ?_
    refine tkV 9 ?_
    refine tkV 10 ?_
    refine tkV 11 ?_
    refine tkV 12 ?_
    refine tkV 13 ?_
    refine wpAnyH_done (by kernel_rfl) ?_ _
    have q9:=hHeld.2.2
    clear hHeld
    go_wp2_with fail
    go_roundw
    case rel=>exact⟨i+1,by omega,by go_num,q9,HK2⟩
    case measure=>simp [intOf];omega
   ·by_cases hxe:y=x
    ·have HW:Hid (L.take i ++ [⟨x,d⟩]++L.drop (i+1)=Aj L ⟨x,d⟩):=AC (OP HO.out hltL (fun j hj=>HK.out j hj (by omega)) (by rw [← HY.out];exact hxe))
     have hye:(y==x)=true:=by simp [hxe]
     go_wp2_with fail
     refine wp_region_held_drew (S:=(fun w'=>w'.cell? ⟨w.heap.size,0,none⟩=some (.int .i64 x)∧w'.cell? (a.add (i*2))=some (.int .i64 y)∧Q (w.alloc (.cells #[.int .i64 x,.string d] 64)) w')) (by kernel_rfl) (KI.out _ q.drew) (fun hHeld=>?_)
     refine tkV 0 ?_
     refine tkV 1 ?_
     refine tkV 2 ?_
     refine tkB 3 (.bool true) ?_
     refine tkV 4 ?_
     refine tkV 5 ?_
     refine tkV 6 ?_
     refine tkV 7 ?_
     refine tkV 8 ?_
     refine tkV 9 ?_
     refine tkV 10 ?_
     refine tkV 11 ?_
     refine tkV 12 ?_
     refine tkV 13 ?_
     refine wpAnyH_done (by kernel_rfl) ?_ _
     have q:=hHeld.2.2
     clear hHeld
     go_wp2_with fail
     refine wp_region_held_drew (S:=(fun w'=>w'.cell? ⟨w.heap.size,0,none⟩=some (.int .i64 x)∧w'.cell? (a.add (i*2))=some (.int .i64 y)∧Q (w.alloc (.cells #[.int .i64 x,.string d] 64)) w')) (by kernel_rfl) (KI.out _ q.drew) (fun hHeld=>?_)
     refine tkV 0 ?_
     refine tkV 1 ?_
     refine tkV 2 ?_
     refine tkB 3 (.bool true) ?_
     refine tkV 4 ?_
     refine tkV 5 ?_
     refine tkV 6 ?_
     refine tkV 7 ?_
     refine tkV 8 ?_
     refine tkV 9 ?_
     refine tkV 10 ?_
     refine tkV 11 ?_
     refine tkV 12 ?_
     refine tkV 13 ?_
     refine wpAnyH_done (by kernel_rfl) ?_ _
     have q:=hHeld.2.2
     clear hHeld
     clear KI
     have hw2:IntKind.i64.wrap ((i:Int)+1)=(i:Int)+1:=by rw [IntKind.wrap_i64];omega
     have hi2:(0:Int)≤(i:Int)+1:=by omega
     have hi3:(i:Int)+1≤(n:Int):=by omega
     have hn1:((i:Int)+1).toNat=i+1:=by omega
     have hi1:(i:Int)≤(c:Int):=by omega
     by_cases hc:c=i+1
     ·have HE:Hid (n=i+1):=AC (by omega)
      have hn0:n - (i+1)=0:=by omega
      subst hc
      go_wp2_with fail
      generalize wr.drew.drew=wz at q ⊢
      have TA:Hid (Prts w w.heap.size (.slice (some a) i (i+1)) (L.take i)):=AC (HT.out.cutTake (by have:=HN.out;omega))
      have TB:Hid (Prts w w.heap.size (.slice (some a) 0 0) (L.drop (i+1))):=AC (Prts.cutEnd (List.drop_eq_nil_iff.2 (by have:=HN.out;have:=HE.out;omega)))
      have qy:Q w (((wz.alloc (.cells #[.int .i64 x,.string d] 64)).alloc (.cells #[.slice (some a) i (i+1),.slice (some ⟨wz.heap.size,0,none⟩) 1 1,.slice (some a) 0 0] 189)).drew):=(((QW.out.trans q).alloc _).alloc _).drew
      have qb:Q (w.alloc (.cells #[.int .i64 x,.string d] 64)) (((wz.alloc (.cells #[.int .i64 x,.string d] 64)).alloc (.cells #[.slice (some a) i (i+1),.slice (some ⟨wz.heap.size,0,none⟩) 1 1,.slice (some a) 0 0] 189)).drew):=((q.alloc _).alloc _).drew
      have T2:Prts (((wz.alloc (.cells #[.int .i64 x,.string d] 64)).alloc (.cells #[.slice (some a) i (i+1),.slice (some ⟨wz.heap.size,0,none⟩) 1 1,.slice (some a) 0 0] 189)).drew) (((wz.alloc (.cells #[.int .i64 x,.string d] 64)).alloc (.cells #[.slice (some a) i (i+1),.slice (some ⟨wz.heap.size,0,none⟩) 1 1,.slice (some a) 0 0] 189)).drew).heap.size (.slice (some ⟨wz.heap.size,0,none⟩) 1 1) [⟨x,d⟩]:=(Cv wz ⟨x,d⟩ hp).on ((Q.refl _).alloc _).drew
      have CN:=AC (Be (wz.heap.size+1) (.slice (some a) i (i+1)) (.slice (some ⟨wz.heap.size,0,none⟩) 1 1) (.slice (some a) 0 0) (L.take i) [⟨x,d⟩] (L.drop (i+1)) (((wz.alloc (.cells #[.int .i64 x,.string d] 64)).alloc (.cells #[.slice (some a) i (i+1),.slice (some ⟨wz.heap.size,0,none⟩) 1 1,.slice (some a) 0 0] 189)).drew) (by simp [go_sem]) (by simp [go_sem]) (by simp [go_sem]) (by simp) (TA.out.on qy) T2 (TB.out.on qy) (by rw [List.length_take];omega) (by simp) (by rw [List.length_drop];have:=HN.out;omega))
      clear T2
      refine wp_region_held_drew (S:=(fun w'=>w'.cell? ⟨w.heap.size,0,none⟩=some (.int .i64 x)∧w'.cell? ⟨w.heap.size,1,none⟩=some (.string d)∧Q (w.alloc (.cells #[.int .i64 x,.string d] 64)) w')) (by kernel_rfl) (KQ.out _ q.drew) (fun hHeld=>?_)
      refine tkV 0 ?_
      refine tkV 1 ?_
      refine tkB 2 (.slice (some a) i (i+1)) ?_
      refine tkV 3 ?_
      refine tkV 5 ?_
      refine tkV 6 ?_
      refine tkB 7 (.slice (some a) 0 0) ?_
      refine aR [4] ?_
      refine aC rfl (fun K hK=>?_) aN
      go_simp
      refine hK.out _ _ (KQ.out _ (q.drew.alloc _)) (fun hHeld=>?_)
      clear hK K
      refine pg ?_
      refine aR [8] ?_
      refine aC rfl (fun K hK=>?_) aN
      go_simp
      refine hK.out _ _ (KQ.out _ qb) (fun hHeld=>?_)
      clear hK K
      refine pg ?_
      refine aR [9] ?_
      refine aC rfl (fun K hK=>?_) aN
      go_simp
      go_at_call 164
      refine(CN.out).mono ?_
      rintro e w' ⟨v',rfl,o',q1⟩
      refine hK.out _ _ (KQ.out _ (qb.trans q1)) (fun hHeld=>?_)
      clear hK K
      refine pg ?_
      refine tkV 10 ?_
      refine wpAnyH_done (by kernel_rfl) ?_ _
      go_wp2
      go_ret
      exact⟨_,rfl,by rw [← HW.out];exact OwnP.low o' qy.size,qy.trans q1⟩
     ·skip
      go_wp2_with fail
      generalize wr.drew.drew=wz at q ⊢
      have TA:Hid (Prts w w.heap.size (.slice (some a) i c) (L.take i)):=AC (HT.out.cutTake (by have:=HN.out;omega))
      have TB:Hid (Prts w w.heap.size (.slice (some (a.add ((i+1)*2))) (n - (i+1)) (c - (i+1))) (L.drop (i+1))):=AC (by have:=HT.out.cutDrop (i:=i+1) (by have:=HN.out;omega);rw [HN.out] at this;exact this)
      have qy:Q w (((wz.alloc (.cells #[.int .i64 x,.string d] 64)).alloc (.cells #[.slice (some a) i c,.slice (some ⟨wz.heap.size,0,none⟩) 1 1,.slice (some (a.add ((i+1)*2))) (n - (i+1)) (c - (i+1))] 189)).drew):=(((QW.out.trans q).alloc _).alloc _).drew
      have qb:Q (w.alloc (.cells #[.int .i64 x,.string d] 64)) (((wz.alloc (.cells #[.int .i64 x,.string d] 64)).alloc (.cells #[.slice (some a) i c,.slice (some ⟨wz.heap.size,0,none⟩) 1 1,.slice (some (a.add ((i+1)*2))) (n - (i+1)) (c - (i+1))] 189)).drew):=((q.alloc _).alloc _).drew
      have T2:Prts (((wz.alloc (.cells #[.int .i64 x,.string d] 64)).alloc (.cells #[.slice (some a) i c,.slice (some ⟨wz.heap.size,0,none⟩) 1 1,.slice (some (a.add ((i+1)*2))) (n - (i+1)) (c - (i+1))] 189)).drew) (((wz.alloc (.cells #[.int .i64 x,.string d] 64)).alloc (.cells #[.slice (some a) i c,.slice (some ⟨wz.heap.size,0,none⟩) 1 1,.slice (some (a.add ((i+1)*2))) (n - (i+1)) (c - (i+1))] 189)).drew).heap.size (.slice (some ⟨wz.heap.size,0,none⟩) 1 1) [⟨x,d⟩]:=(Cv wz ⟨x,d⟩ hp).on ((Q.refl _).alloc _).drew
      have CN:=AC (Be (wz.heap.size+1) (.slice (some a) i c) (.slice (some ⟨wz.heap.size,0,none⟩) 1 1) (.slice (some (a.add ((i+1)*2))) (n - (i+1)) (c - (i+1))) (L.take i) [⟨x,d⟩] (L.drop (i+1)) (((wz.alloc (.cells #[.int .i64 x,.string d] 64)).alloc (.cells #[.slice (some a) i c,.slice (some ⟨wz.heap.size,0,none⟩) 1 1,.slice (some (a.add ((i+1)*2))) (n - (i+1)) (c - (i+1))] 189)).drew) (by simp [go_sem]) (by simp [go_sem]) (by simp [go_sem]) (by simp) (TA.out.on qy) T2 (TB.out.on qy) (by rw [List.length_take];omega) (by simp) (by rw [List.length_drop];have:=HN.out;omega))
      clear T2
      refine wp_region_held_drew (S:=(fun w'=>w'.cell? ⟨w.heap.size,0,none⟩=some (.int .i64 x)∧w'.cell? ⟨w.heap.size,1,none⟩=some (.string d)∧Q (w.alloc (.cells #[.int .i64 x,.string d] 64)) w')) (by kernel_rfl) (KQ.out _ q.drew) (fun hHeld=>?_)
      refine tkV 0 ?_
      refine tkV 1 ?_
      refine tkB 2 (.slice (some a) i c) ?_
      refine tkV 3 ?_
      refine tkV 5 ?_
      refine tkV 6 ?_
      refine tkB 7 (.slice (some (a.add ((i+1)*2))) (n - (i+1)) (c - (i+1))) ?_
      refine aR [4] ?_
      refine aC rfl (fun K hK=>?_) aN
      go_simp
      refine hK.out _ _ (KQ.out _ (q.drew.alloc _)) (fun hHeld=>?_)
      clear hK K
      refine pg ?_
      refine aR [8] ?_
      refine aC rfl (fun K hK=>?_) aN
      go_simp
      refine hK.out _ _ (KQ.out _ qb) (fun hHeld=>?_)
      clear hK K
      refine pg ?_
      refine aR [9] ?_
      refine aC rfl (fun K hK=>?_) aN
      go_simp
      go_at_call 164
      refine(CN.out).mono ?_
      rintro e w' ⟨v',rfl,o',q1⟩
      refine hK.out _ _ (KQ.out _ (qb.trans q1)) (fun hHeld=>?_)
      clear hK K
      refine pg ?_
      refine tkV 10 ?_
      refine wpAnyH_done (by kernel_rfl) ?_ _
      go_wp2
      go_ret
      exact⟨_,rfl,by rw [← HW.out];exact OwnP.low o' qy.size,qy.trans q1⟩
    ·have HW:Hid (L.take i ++ [⟨x,d⟩]++L.drop i=Aj L ⟨x,d⟩):=AC (OO HO.out hltL (fun j hj=>HK.out j hj (by omega)) (by rw [← HY.out];show x<y;omega))
     have hye:(y==x)=false:=by simpa using hxe
     go_wp2_with fail
     refine wp_region_held_drew (S:=(fun w'=>w'.cell? ⟨w.heap.size,0,none⟩=some (.int .i64 x)∧w'.cell? (a.add (i*2))=some (.int .i64 y)∧Q (w.alloc (.cells #[.int .i64 x,.string d] 64)) w')) (by kernel_rfl) (KI.out _ q.drew) (fun hHeld=>?_)
     refine tkV 0 ?_
     refine tkV 1 ?_
     refine tkV 2 ?_
     refine tkB 3 (.bool true) ?_
     refine tkV 4 ?_
     refine tkV 5 ?_
     refine tkV 6 ?_
     refine tkV 7 ?_
     refine tkV 8 ?_
     refine tkV 9 ?_
     refine tkV 10 ?_
     refine tkV 11 ?_
     refine tkV 12 ?_
     refine tkV 13 ?_
     refine wpAnyH_done (by kernel_rfl) ?_ _
     have q:=hHeld.2.2
     clear hHeld
     go_wp2_with fail
     refine wp_region_held_drew (S:=(fun w'=>w'.cell? ⟨w.heap.size,0,none⟩=some (.int .i64 x)∧w'.cell? (a.add (i*2))=some (.int .i64 y)∧Q (w.alloc (.cells #[.int .i64 x,.string d] 64)) w')) (by kernel_rfl) (KI.out _ q.drew) (fun hHeld=>?_)
     refine tkV 0 ?_
     refine tkV 1 ?_
     refine tkV 2 ?_
     refine tkB 3 (.bool true) ?_
     refine tkV 4 ?_
     refine tkV 5 ?_
     refine tkV 6 ?_
     refine tkV 7 ?_
     refine tkV 8 ?_
     refine tkV 9 ?_
     refine tkV 10 ?_
     refine tkV 11 ?_
     refine tkV 12 ?_
     refine tkV 13 ?_
     refine wpAnyH_done (by kernel_rfl) ?_ _
     have q:=hHeld.2.2
     clear hHeld
     clear KI
     have hi1:(i:Int)≤(c:Int):=by omega
     have hi3:(i:Int)≤(n:Int):=by omega
     have hc:c≠i:=by omega
     go_wp2_with fail
     generalize wr.drew.drew=wz at q ⊢
     have TA:Hid (Prts w w.heap.size (.slice (some a) i c) (L.take i)):=AC (HT.out.cutTake (by have:=HN.out;omega))
     have TB:Hid (Prts w w.heap.size (.slice (some (a.add (i*2))) (n - i) (c - i)) (L.drop (i))):=AC (by have:=HT.out.cutDrop (i:=i) (by have:=HN.out;omega);rw [HN.out] at this;exact this)
     have qy:Q w (((wz.alloc (.cells #[.int .i64 x,.string d] 64)).alloc (.cells #[.slice (some a) i c,.slice (some ⟨wz.heap.size,0,none⟩) 1 1,.slice (some (a.add (i*2))) (n - i) (c - i)] 189)).drew):=(((QW.out.trans q).alloc _).alloc _).drew
     have qb:Q (w.alloc (.cells #[.int .i64 x,.string d] 64)) (((wz.alloc (.cells #[.int .i64 x,.string d] 64)).alloc (.cells #[.slice (some a) i c,.slice (some ⟨wz.heap.size,0,none⟩) 1 1,.slice (some (a.add (i*2))) (n - i) (c - i)] 189)).drew):=((q.alloc _).alloc _).drew
     have T2:Prts (((wz.alloc (.cells #[.int .i64 x,.string d] 64)).alloc (.cells #[.slice (some a) i c,.slice (some ⟨wz.heap.size,0,none⟩) 1 1,.slice (some (a.add (i*2))) (n - i) (c - i)] 189)).drew) (((wz.alloc (.cells #[.int .i64 x,.string d] 64)).alloc (.cells #[.slice (some a) i c,.slice (some ⟨wz.heap.size,0,none⟩) 1 1,.slice (some (a.add (i*2))) (n - i) (c - i)] 189)).drew).heap.size (.slice (some ⟨wz.heap.size,0,none⟩) 1 1) [⟨x,d⟩]:=(Cv wz ⟨x,d⟩ hp).on ((Q.refl _).alloc _).drew
     have CN:=AC (Be (wz.heap.size+1) (.slice (some a) i c) (.slice (some ⟨wz.heap.size,0,none⟩) 1 1) (.slice (some (a.add (i*2))) (n - i) (c - i)) (L.take i) [⟨x,d⟩] (L.drop (i)) (((wz.alloc (.cells #[.int .i64 x,.string d] 64)).alloc (.cells #[.slice (some a) i c,.slice (some ⟨wz.heap.size,0,none⟩) 1 1,.slice (some (a.add (i*2))) (n - i) (c - i)] 189)).drew) (by simp [go_sem]) (by simp [go_sem]) (by simp [go_sem]) (by simp) (TA.out.on qy) T2 (TB.out.on qy) (by rw [List.length_take];omega) (by simp) (by rw [List.length_drop];have:=HN.out;omega))
     clear T2
     refine wp_region_held_drew (S:=(fun w'=>w'.cell? ⟨w.heap.size,0,none⟩=some (.int .i64 x)∧w'.cell? ⟨w.heap.size,1,none⟩=some (.string d)∧Q (w.alloc (.cells #[.int .i64 x,.string d] 64)) w')) (by kernel_rfl) (KQ.out _ q.drew) (fun hHeld=>?_)
     refine tkV 0 ?_
     refine tkV 1 ?_
     refine tkB 2 (.slice (some a) i c) ?_
     refine tkV 3 ?_
     refine tkV 5 ?_
     refine tkV 6 ?_
     refine tkB 7 (.slice (some (a.add (i*2))) (n - i) (c - i)) ?_
     refine aR [4] ?_
     refine aC rfl (fun K hK=>?_) aN
     go_simp
     refine hK.out _ _ (KQ.out _ (q.drew.alloc _)) (fun hHeld=>?_)
     clear hK K
     refine pg ?_
     refine aR [8] ?_
     refine aC rfl (fun K hK=>?_) aN
     go_simp
     refine hK.out _ _ (KQ.out _ qb) (fun hHeld=>?_)
     clear hK K
     refine pg ?_
     refine aR [9] ?_
     refine aC rfl (fun K hK=>?_) aN
     go_simp
     go_at_call 164
     refine(CN.out).mono ?_
     rintro e w' ⟨v',rfl,o',q1⟩
     refine hK.out _ _ (KQ.out _ (qb.trans q1)) (fun hHeld=>?_)
     clear hK K
     refine pg ?_
     refine tkV 10 ?_
     refine wpAnyH_done (by kernel_rfl) ?_ _
     go_wp2
     go_ret
     exact⟨_,rfl,by rw [← HW.out];exact OwnP.low o' qy.size,qy.trans q1⟩
  ·have HW:Hid (L.take i ++ [⟨x,d⟩]++L.drop i=Aj L ⟨x,d⟩):=AC (by
    have:=Ln (p:=⟨x,d⟩) HO.out (fun j hj=>HK.out j (by have:=HN.out;omega) hj)
    rw [HN.out] at this
    rw [show i=n by omega];exact this)
   have HIN:Hid (i=n):=AC (by omega)
   have hilt:¬ (i:Int)<(n:Int):=by omega
   go_wp2_with fail
   refine wp_region_held_drew (S:=(fun w'=>w'.cell? ⟨w.heap.size,0,none⟩=some (.int .i64 x)∧w'.cell? ⟨w.heap.size,1,none⟩=some (.string d)∧Q (w.alloc (.cells #[.int .i64 x,.string d] 64)) w')) (by kernel_rfl) (KQ.out _ q.drew) (fun hHeld=>?_)
   refine tkV 0 ?_
   refine tkV 1 ?_
   refine tkV 2 ?_
   refine tkB 3 (.bool false) ?_
   refine tkV 4 ?_
   refine tkU 5 ?_
   refine tkU 6 ?_
   refine tkU 7 ?_
   refine tkU 8 ?_
   refine tkU 9 ?_
   refine tkU 10 ?_
   refine tkU 11 ?_
   refine tkU 12 ?_
   refine tkV 13 ?_
   refine wpAnyH_done (by kernel_rfl) ?_ _
   have q:=hHeld.2.2
   clear hHeld
   go_wp2_with fail
   refine wp_region_held_drew (S:=(fun w'=>w'.cell? ⟨w.heap.size,0,none⟩=some (.int .i64 x)∧w'.cell? ⟨w.heap.size,1,none⟩=some (.string d)∧Q (w.alloc (.cells #[.int .i64 x,.string d] 64)) w')) (by kernel_rfl) (KQ.out _ q.drew) (fun hHeld=>?_)
   refine tkV 0 ?_
   refine tkV 1 ?_
   refine tkV 2 ?_
   refine tkB 3 (.bool false) ?_
   refine tkV 4 ?_
   refine tkU 5 ?_
   refine tkU 6 ?_
   refine tkU 7 ?_
   refine tkU 8 ?_
   refine tkU 9 ?_
   refine tkU 10 ?_
   refine tkU 11 ?_
   refine tkU 12 ?_
   refine tkV 13 ?_
   refine wpAnyH_done (by kernel_rfl) ?_ _
   have q:=hHeld.2.2
   clear hHeld
   have hi1:(i:Int)≤(c:Int):=by omega
   have hi3:(i:Int)≤(n:Int):=by omega
   have hn0:n - i=0:=by omega
   by_cases hc:i=c
   ·subst hc
    go_wp2_with fail
    generalize wr.drew.drew=wz at q ⊢
    have TA:Hid (Prts w w.heap.size (.slice (some a) i i) (L.take i)):=AC (HT.out.cutTake (by have:=HN.out;omega))
    have TB:Hid (Prts w w.heap.size (.slice (some a) 0 0) (L.drop (i))):=AC (Prts.cutEnd (List.drop_eq_nil_iff.2 (by have:=HN.out;have:=HIN.out;omega)))
    have qy:Q w (((wz.alloc (.cells #[.int .i64 x,.string d] 64)).alloc (.cells #[.slice (some a) i i,.slice (some ⟨wz.heap.size,0,none⟩) 1 1,.slice (some a) 0 0] 189)).drew):=(((QW.out.trans q).alloc _).alloc _).drew
    have qb:Q (w.alloc (.cells #[.int .i64 x,.string d] 64)) (((wz.alloc (.cells #[.int .i64 x,.string d] 64)).alloc (.cells #[.slice (some a) i i,.slice (some ⟨wz.heap.size,0,none⟩) 1 1,.slice (some a) 0 0] 189)).drew):=((q.alloc _).alloc _).drew
    have T2:Prts (((wz.alloc (.cells #[.int .i64 x,.string d] 64)).alloc (.cells #[.slice (some a) i i,.slice (some ⟨wz.heap.size,0,none⟩) 1 1,.slice (some a) 0 0] 189)).drew) (((wz.alloc (.cells #[.int .i64 x,.string d] 64)).alloc (.cells #[.slice (some a) i i,.slice (some ⟨wz.heap.size,0,none⟩) 1 1,.slice (some a) 0 0] 189)).drew).heap.size (.slice (some ⟨wz.heap.size,0,none⟩) 1 1) [⟨x,d⟩]:=(Cv wz ⟨x,d⟩ hp).on ((Q.refl _).alloc _).drew
    have CN:=AC (Be (wz.heap.size+1) (.slice (some a) i i) (.slice (some ⟨wz.heap.size,0,none⟩) 1 1) (.slice (some a) 0 0) (L.take i) [⟨x,d⟩] (L.drop (i)) (((wz.alloc (.cells #[.int .i64 x,.string d] 64)).alloc (.cells #[.slice (some a) i i,.slice (some ⟨wz.heap.size,0,none⟩) 1 1,.slice (some a) 0 0] 189)).drew) (by simp [go_sem]) (by simp [go_sem]) (by simp [go_sem]) (by simp) (TA.out.on qy) T2 (TB.out.on qy) (by rw [List.length_take];omega) (by simp) (by rw [List.length_drop];have:=HN.out;omega))
    clear T2
    refine wp_region_held_drew (S:=(fun w'=>w'.cell? ⟨w.heap.size,0,none⟩=some (.int .i64 x)∧w'.cell? ⟨w.heap.size,1,none⟩=some (.string d)∧Q (w.alloc (.cells #[.int .i64 x,.string d] 64)) w')) (by kernel_rfl) (KQ.out _ q.drew) (fun hHeld=>?_)
    refine tkV 0 ?_
    refine tkV 1 ?_
    refine tkB 2 (.slice (some a) i i) ?_
    refine tkV 3 ?_
    refine tkV 5 ?_
    refine tkV 6 ?_
    refine tkB 7 (.slice (some a) 0 0) ?_
    refine aR [4] ?_
    refine aC rfl (fun K hK=>?_) aN
    go_simp
    refine hK.out _ _ (KQ.out _ (q.drew.alloc _)) (fun hHeld=>?_)
    clear hK K
    refine pg ?_
    refine aR [8] ?_
    refine aC rfl (fun K hK=>?_) aN
    go_simp
    refine hK.out _ _ (KQ.out _ qb) (fun hHeld=>?_)
    clear hK K
    refine pg ?_
    refine aR [9] ?_
    refine aC rfl (fun K hK=>?_) aN
    go_simp
    go_at_call 164
    refine(CN.out).mono ?_
    rintro e w' ⟨v',rfl,o',q1⟩
    refine hK.out _ _ (KQ.out _ (qb.trans q1)) (fun hHeld=>?_)
    clear hK K
    refine pg ?_
    refine tkV 10 ?_
    refine wpAnyH_done (by kernel_rfl) ?_ _
    go_wp2
    go_ret
    exact⟨_,rfl,by rw [← HW.out];exact OwnP.low o' qy.size,qy.trans q1⟩
   ·skip
    go_wp2_with fail
    generalize wr.drew.drew=wz at q ⊢
    have TA:Hid (Prts w w.heap.size (.slice (some a) i c) (L.take i)):=AC (HT.out.cutTake (by have:=HN.out;omega))
    have TB:Hid (Prts w w.heap.size (.slice (some (a.add (i*2))) 0 (c - i)) (L.drop (i))):=AC (by have:=HT.out.cutDrop (i:=i) (by have:=HN.out;omega);rw [HN.out,show n - i=0 by omega] at this;exact this)
    have qy:Q w (((wz.alloc (.cells #[.int .i64 x,.string d] 64)).alloc (.cells #[.slice (some a) i c,.slice (some ⟨wz.heap.size,0,none⟩) 1 1,.slice (some (a.add (i*2))) 0 (c - i)] 189)).drew):=(((QW.out.trans q).alloc _).alloc _).drew
    have qb:Q (w.alloc (.cells #[.int .i64 x,.string d] 64)) (((wz.alloc (.cells #[.int .i64 x,.string d] 64)).alloc (.cells #[.slice (some a) i c,.slice (some ⟨wz.heap.size,0,none⟩) 1 1,.slice (some (a.add (i*2))) 0 (c - i)] 189)).drew):=((q.alloc _).alloc _).drew
    have T2:Prts (((wz.alloc (.cells #[.int .i64 x,.string d] 64)).alloc (.cells #[.slice (some a) i c,.slice (some ⟨wz.heap.size,0,none⟩) 1 1,.slice (some (a.add (i*2))) 0 (c - i)] 189)).drew) (((wz.alloc (.cells #[.int .i64 x,.string d] 64)).alloc (.cells #[.slice (some a) i c,.slice (some ⟨wz.heap.size,0,none⟩) 1 1,.slice (some (a.add (i*2))) 0 (c - i)] 189)).drew).heap.size (.slice (some ⟨wz.heap.size,0,none⟩) 1 1) [⟨x,d⟩]:=(Cv wz ⟨x,d⟩ hp).on ((Q.refl _).alloc _).drew
    have CN:=AC (Be (wz.heap.size+1) (.slice (some a) i c) (.slice (some ⟨wz.heap.size,0,none⟩) 1 1) (.slice (some (a.add (i*2))) 0 (c - i)) (L.take i) [⟨x,d⟩] (L.drop (i)) (((wz.alloc (.cells #[.int .i64 x,.string d] 64)).alloc (.cells #[.slice (some a) i c,.slice (some ⟨wz.heap.size,0,none⟩) 1 1,.slice (some (a.add (i*2))) 0 (c - i)] 189)).drew) (by simp [go_sem]) (by simp [go_sem]) (by simp [go_sem]) (by simp) (TA.out.on qy) T2 (TB.out.on qy) (by rw [List.length_take];omega) (by simp) (by rw [List.length_drop];have:=HN.out;omega))
    clear T2
    refine wp_region_held_drew (S:=(fun w'=>w'.cell? ⟨w.heap.size,0,none⟩=some (.int .i64 x)∧w'.cell? ⟨w.heap.size,1,none⟩=some (.string d)∧Q (w.alloc (.cells #[.int .i64 x,.string d] 64)) w')) (by kernel_rfl) (KQ.out _ q.drew) (fun hHeld=>?_)
    refine tkV 0 ?_
    refine tkV 1 ?_
    refine tkB 2 (.slice (some a) i c) ?_
    refine tkV 3 ?_
    refine tkV 5 ?_
    refine tkV 6 ?_
    refine tkB 7 (.slice (some (a.add (i*2))) 0 (c - i)) ?_
    refine aR [4] ?_
    refine aC rfl (fun K hK=>?_) aN
    go_simp
    refine hK.out _ _ (KQ.out _ (q.drew.alloc _)) (fun hHeld=>?_)
    clear hK K
    refine pg ?_
    refine aR [8] ?_
    refine aC rfl (fun K hK=>?_) aN
    go_simp
    refine hK.out _ _ (KQ.out _ qb) (fun hHeld=>?_)
    clear hK K
    refine pg ?_
    refine aR [9] ?_
    refine aC rfl (fun K hK=>?_) aN
    go_simp
    go_at_call 164
    refine(CN.out).mono ?_
    rintro e w' ⟨v',rfl,o',q1⟩
    refine hK.out _ _ (KQ.out _ (qb.trans q1)) (fun hHeld=>?_)
    clear hK K
    refine pg ?_
    refine tkV 10 ?_
    refine wpAnyH_done (by kernel_rfl) ?_ _
    go_wp2
    go_ret
    exact⟨_,rfl,by rw [← HW.out];exact OwnP.low o' qy.size,qy.trans q1⟩
theorem ON(x:Int)(d:ByteArray)(w:World)(hp:De ⟨x,d⟩):
  Calls Tryz.prog 145 #[.slice none 0 0,.agg #[.int .i64 x,.string d]] w fun e w'=>∃ v',e=.returned v'∧OwnP w.heap.size w' v' (Aj [] ⟨x,d⟩)∧Q w w':=by
 have q00:=Q.refl (w.alloc (.cells #[.int .i64 x,.string d] 64))
 have QW:=AC ((Q.refl w).alloc (.cells #[.int .i64 x,.string d] 64))
 have KQ:Hid (∀ b,Q (w.alloc (.cells #[.int .i64 x,.string d] 64)) b→(fun w'=>w'.cell? ⟨w.heap.size,0,none⟩=some (.int .i64 x)∧w'.cell? ⟨w.heap.size,1,none⟩=some (.string d)∧Q (w.alloc (.cells #[.int .i64 x,.string d] 64)) w') b):=AC fun b q=>⟨(Ak q).1,(Ak q).2,q⟩
 have HW:Hid ([] ++ [⟨x,d⟩] ++ []=Aj [] ⟨x,d⟩):=AC (by simp [Aj])
 go_enter Tryz.func145,Tryz.ntmps145
 go_wp2_with fail
 go_loopw [5] (fun I wr=>I=.int .i64 0∧Q (w.alloc (.cells #[.int .i64 x,.string d] 64)) wr) (fun _ _=>0)
 case atStart=>exact⟨rfl,q00⟩
 case round=>
  obtain⟨rfl,q⟩:=hrel
  clear q00
  go_wp2_with fail
  refine wp_region_held_drew (S:=(fun w'=>w'.cell? ⟨w.heap.size,0,none⟩=some (.int .i64 x)∧w'.cell? ⟨w.heap.size,1,none⟩=some (.string d)∧Q (w.alloc (.cells #[.int .i64 x,.string d] 64)) w')) (by kernel_rfl) (KQ.out _ q.drew) (fun hHeld=>?_)
  refine tkV 0 ?_
  refine tkV 1 ?_
  refine tkV 2 ?_
  refine tkB 3 (.bool false) ?_
  refine tkV 4 ?_
  refine tkU 5 ?_
  refine tkU 6 ?_
  refine tkU 7 ?_
  refine tkU 8 ?_
  refine tkU 9 ?_
  refine tkU 10 ?_
  refine tkU 11 ?_
  refine tkU 12 ?_
  refine tkV 13 ?_
  refine wpAnyH_done (by kernel_rfl) ?_ _
  have q:=hHeld.2.2
  clear hHeld
  go_wp2_with fail
  refine wp_region_held_drew (S:=(fun w'=>w'.cell? ⟨w.heap.size,0,none⟩=some (.int .i64 x)∧w'.cell? ⟨w.heap.size,1,none⟩=some (.string d)∧Q (w.alloc (.cells #[.int .i64 x,.string d] 64)) w')) (by kernel_rfl) (KQ.out _ q.drew) (fun hHeld=>?_)
  refine tkV 0 ?_
  refine tkV 1 ?_
  refine tkV 2 ?_
  refine tkB 3 (.bool false) ?_
  refine tkV 4 ?_
  refine tkU 5 ?_
  refine tkU 6 ?_
  refine tkU 7 ?_
  refine tkU 8 ?_
  refine tkU 9 ?_
  refine tkU 10 ?_
  refine tkU 11 ?_
  refine tkU 12 ?_
  refine tkV 13 ?_
  refine wpAnyH_done (by kernel_rfl) ?_ _
  have q:=hHeld.2.2
  clear hHeld
  go_wp2_with fail
  generalize wr.drew.drew=wz at q ⊢
  have qy:Q w (((wz.alloc (.cells #[.int .i64 x,.string d] 64)).alloc (.cells #[.slice none 0 0,.slice (some ⟨wz.heap.size,0,none⟩) 1 1,.slice none 0 0] 189)).drew):=(((QW.out.trans q).alloc _).alloc _).drew
  have qb:Q (w.alloc (.cells #[.int .i64 x,.string d] 64)) (((wz.alloc (.cells #[.int .i64 x,.string d] 64)).alloc (.cells #[.slice none 0 0,.slice (some ⟨wz.heap.size,0,none⟩) 1 1,.slice none 0 0] 189)).drew):=((q.alloc _).alloc _).drew
  have T2:Prts (((wz.alloc (.cells #[.int .i64 x,.string d] 64)).alloc (.cells #[.slice none 0 0,.slice (some ⟨wz.heap.size,0,none⟩) 1 1,.slice none 0 0] 189)).drew) (((wz.alloc (.cells #[.int .i64 x,.string d] 64)).alloc (.cells #[.slice none 0 0,.slice (some ⟨wz.heap.size,0,none⟩) 1 1,.slice none 0 0] 189)).drew).heap.size (.slice (some ⟨wz.heap.size,0,none⟩) 1 1) [⟨x,d⟩]:=(Cv wz ⟨x,d⟩ hp).on ((Q.refl _).alloc _).drew
  have CN:=AC (Be (wz.heap.size+1) (.slice none 0 0) (.slice (some ⟨wz.heap.size,0,none⟩) 1 1) (.slice none 0 0) [] [⟨x,d⟩] [] (((wz.alloc (.cells #[.int .i64 x,.string d] 64)).alloc (.cells #[.slice none 0 0,.slice (some ⟨wz.heap.size,0,none⟩) 1 1,.slice none 0 0] 189)).drew) (by simp [go_sem]) (by simp [go_sem]) (by simp [go_sem]) (by simp) (Prts.nil _ _) T2 (Prts.nil _ _) (by simp) (by simp) (by simp))
  clear T2
  refine wp_region_held_drew (S:=(fun w'=>w'.cell? ⟨w.heap.size,0,none⟩=some (.int .i64 x)∧w'.cell? ⟨w.heap.size,1,none⟩=some (.string d)∧Q (w.alloc (.cells #[.int .i64 x,.string d] 64)) w')) (by kernel_rfl) (KQ.out _ q.drew) (fun hHeld=>?_)
  refine tkV 0 ?_
  refine tkV 1 ?_
  refine tkB 2 (.slice none 0 0) ?_
  refine tkV 3 ?_
  refine tkV 5 ?_
  refine tkV 6 ?_
  refine tkB 7 (.slice none 0 0) ?_
  refine aR [4] ?_
  refine aC rfl (fun K hK=>?_) aN
  go_simp
  refine hK.out _ _ (KQ.out _ (q.drew.alloc _)) (fun hHeld=>?_)
  clear hK K
  refine pg ?_
  refine aR [8] ?_
  refine aC rfl (fun K hK=>?_) aN
  go_simp
  refine hK.out _ _ (KQ.out _ qb) (fun hHeld=>?_)
  clear hK K
  refine pg ?_
  refine aR [9] ?_
  refine aC rfl (fun K hK=>?_) aN
  go_simp
  go_at_call 164
  refine(CN.out).mono ?_
  rintro e w' ⟨v',rfl,o',q1⟩
  refine hK.out _ _ (KQ.out _ (qb.trans q1)) (fun hHeld=>?_)
  clear hK K
  refine pg ?_
  refine tkV 10 ?_
  refine wpAnyH_done (by kernel_rfl) ?_ _
  go_wp2
  go_ret
  exact⟨_,rfl,by rw [← HW.out];exact OwnP.low o' qy.size,qy.trans q1⟩
theorem JD(L:List Prt)(p:Prt)(v:Value)(w:World)(ho:okL L)(hp:De p)(hl:L.length≤1000)(ht:Prts w w.heap.size v L):
  Calls Tryz.prog 145 #[v,prt p] w fun e w'=>∃ v',e=.returned v'∧OwnP w.heap.size w' v' (Aj L p)∧Q w w':=by
 obtain⟨x,d⟩:=p
 obtain⟨A,c,rfl⟩:=ht.form
 cases A with
 | none=>
   have hc:c=0∧L=[]:=by
    obtain⟨A',c',e,e0,ez,-,-⟩:=ht
    injection e with e1 e2 e3
    have:=ez e1.symm
    exact⟨by omega,List.length_eq_zero_iff.1 (by omega)⟩
   obtain⟨rfl,rfl⟩:=hc
   exact ON x d w hp
 | some a=>exact Qv L a _ c x d w rfl ho hp hl ht
end
section
open Go.ChangeShapes Go.WideShapes Go.ChangeAt Go.RowKit
section
variable {P:Program} {ops:Array Oper} {Z:Exit→Act→World→Prop} {md:Region.Mode} {F:World→Prop} {st:Nat}
def Till(P:Program)(md:Region.Mode)(ops:Array Oper)(Z:Exit→Act→World→Prop)(F:World→Prop)(st:Nat):Nat→Array Bool→Act→World→Prop
 | 0,up,a,w=>Region.ready md ops up=[]∧Z .normal a w
 | k+1,up,a,w=>(Region.ready md ops up=[]→Z .normal a w)∧∀ i∈Region.ready md ops up,wpOp P ops Z i (fun b x=>((up.setIfInBounds i true).getD st true=false→F x)∧Till P md ops Z F st k (up.setIfInBounds i true) b x) a w
theorem Till.any:∀ (k:Nat) (up:Array Bool) (a:Act) (w:World),Till P md ops Z F st k up a w→wpAny P md ops Z k up a w
 | 0,_,_,_,h=>h
 | k+1,_,_,_,h=>⟨h.1,fun i hi=>wpOp_mono (fun b x g=>Till.any k _ b x g.2) (h.2 i hi)⟩
def JE(ops:Array Oper)(md:Region.Mode)(st i:Nat):Bool:=match ops[st]? with
 | some o=>o.after.any fun e=>Region.binds md e&&e.on==i
 | none=>false
theorem Aw{id:Nat}{a:Act}{w:World}(hm:P.follows .mixedOrders=true)(hF:F w.drew)(h:F w.drew→Till P .any ops Z F st ops.size (Array.replicate ops.size false) a w.drew):(Code.region id ops true).wp P Z a w:=
 wp_region_any hm (Till.any _ _ _ _ (h hF))
theorem Till.first{i:Nat}{o:Oper}{v:Value}(hi:ops[i]?=some o)(hsel:∀ (j:Nat) (x:Oper) cs b,ops[j]?=some x→x.op≠.select cs b)(hwait:JE ops md st i=true)
  (hZ:∀ c a w,Z (.panic c) (a.put o.dst v) w→Z (.panic c) a w):∀ (k:Nat) (up:Array Bool) (a:Act) (w:World),up.getD st true=false→
   (∀ j x,ops[j]?=some x→j≠i→up.getD j true=false→(∀ e∈x.after,Region.binds md e=true→e.on≠i)→o.apart ops x=true)→
   i∈Region.ready md ops up→YieldsIf P ops F o v a→F w→Till P md ops Z F st k (up.setIfInBounds i true) (a.put o.dst v) w→Till P md ops Z F st (k+1) up a w:=by
 have notYet:∀ up:Array Bool,i∈Region.ready md ops up→∀ j∈Region.ready md ops up,j≠i→∀ x,ops[j]?=some x→∀ e∈x.after,Region.binds md e=true→e.on≠i:=by
  intro up hr j hj hne x hx e he hb heq
  obtain⟨h0,-⟩:=mem_ready.1 hr
  obtain⟨-,y,hy,hall⟩:=mem_ready.1 hj
  rw [hx] at hy
  cases hy
  have h1:=hall e he hb
  rw [heq] at h1
  by_cases hs:i<up.size
  ·simp [hs] at h0 h1;rw [h0] at h1;cases h1
  ·simp [Array.getElem?_eq_none (Nat.le_of_not_lt hs)] at h1
 have notSt:∀ up:Array Bool,i∈Region.ready md ops up→∀ j∈Region.ready md ops up,j≠i→j≠st:=by
  intro up hr j hj hne e
  subst e
  obtain⟨-,x,hx,-⟩:=mem_ready.1 hj
  unfold JE at hwait
  rw [hx] at hwait
  obtain⟨e,he,hb⟩:=Array.any_eq_true'.1 hwait
  simp only [Bool.and_eq_true,beq_iff_eq] at hb
  exact notYet up hr _ hj hne x hx e he hb.1 hb.2
 intro k
 induction k with
 | zero=>
   intro up a w hst hfree hr hy hF H
   refine⟨fun e=>(by rw [e] at hr;cases hr),fun j hj=>?_⟩
   by_cases hji:j=i
   ·subst hji;exact hy.wpOp hi hF ⟨fun _=>hF,H⟩
   ·have:=ready_mono hj hji
    rw [H.1] at this;cases this
 | succ k ih=>
   intro up a w hst hfree hr hy hF H
   refine⟨fun e=>(by rw [e] at hr;cases hr),fun j hj=>?_⟩
   by_cases hji:j=i
   ·subst hji;exact hy.wpOp hi hF ⟨fun _=>hF,H⟩
   ·obtain⟨hjun,x,hx,-⟩:=mem_ready.1 hj
    have hjst:=notSt up hr j hj hji
    have hup:(up.setIfInBounds j true).getD st true=false:=by rw [getD_set_ne true hjst];exact hst
    have hup2:((up.setIfInBounds i true).setIfInBounds j true).getD st true=false∨i=st:=by
     by_cases his:i=st
     ·exact .inr his
     ·left;rw [getD_set_ne true hjst,getD_set_ne true his];exact hst
    have step:=wpOp_putIf hx (hfree j x hx hji hjun (notYet up hr j hj hji x hx)) (fun cs b=>hsel i o cs b hi) (fun cs b=>hsel j x cs b hx) hZ hy (H.2 j (ready_mono hj hji))
    have hfree':∀ m y,ops[m]?=some y→m≠i→(up.setIfInBounds j true).getD m true=false→(∀ e∈y.after,Region.binds md e=true→e.on≠i)→o.apart ops y=true:=by
     intro m y hy2 hmi hun hno
     refine hfree m y hy2 hmi ?_ hno
     by_cases hjm:j=m
     ·subst hjm;exact hjun
     ·rwa [getD_set_ne true hjm] at hun
    refine wpOp_mono (fun b x' g=>?_) step
    obtain⟨g1,g2,g3⟩:=g
    have hFx:F x':=by
     rcases hup2 with h | h
     ·exact g2 h
     ·exfalso
      subst h
      unfold JE at hwait
      rw [hi] at hwait
      obtain⟨e,he,hb⟩:=Array.any_eq_true'.1 hwait
      simp only [Bool.and_eq_true,beq_iff_eq] at hb
      obtain⟨h0,y,hy2,hall⟩:=mem_ready.1 hr
      rw [hi] at hy2
      cases hy2
      have h1:=hall e he hb.1
      rw [hb.2] at h1
      by_cases hs:i<up.size
      ·simp [hs] at h0 h1;rw [h0] at h1;cases h1
      ·simp [Array.getElem?_eq_none (Nat.le_of_not_lt hs)] at h1
    refine⟨fun _=>hFx,ih (up.setIfInBounds j true) b x' hup hfree' (ready_mono hr (Ne.symm hji)) g1 hFx ?_⟩
    rw [Array.setIfInBounds_comm _ _ hji]
    exact g3
theorem AL{i:Nat}{o:Oper}{v:Value}{k:Nat}{up:Array Bool}{a:Act}{w:World}(hi:ops[i]?=some o)(hs:Region.noSelect ops=true)(hf:Region.free md ops up i=true)(hr:(Region.ready md ops up).contains i=true)
  (hwait:JE ops md st i=true) (hst:up.getD st true=false) (hZ:∀ c a w,Z (.panic c) (a.put o.dst v) w→Z (.panic c) a w) (hy:YieldsIf P ops F o v a) (hF:F w)
  (h:Till P md ops Z F st k (up.setIfInBounds i true) (a.put o.dst v) w):Till P md ops Z F st (k+1) up a w:=
 Till.first hi (Region.noSelect_spec hs) hwait hZ k up a w hst (Region.free_spec hi hf) (by simpa using hr) hy hF h
theorem Till.pure1{i:Nat}{o:Oper}{v:Value}(hi:ops[i]?=some o)(hsel:∀ (j:Nat) (x:Oper) cs b,ops[j]?=some x→x.op≠.select cs b)(his:i≠st)
  (hZ:∀ c a w,Z (.panic c) (a.put o.dst v) w→Z (.panic c) a w):∀ (k:Nat) (up:Array Bool) (a:Act) (w:World),
   (∀ j x,ops[j]?=some x→j≠i→up.getD j true=false→(∀ e∈x.after,Region.binds md e=true→e.on≠i)→o.apart ops x=true)→
   i∈Region.ready md ops up→YieldsIf P ops (fun _=>True) o v a→(up.getD st true=false→F w)→Till P md ops Z F st k (up.setIfInBounds i true) (a.put o.dst v) w→Till P md ops Z F st (k+1) up a w:=by
 have notYet:∀ up:Array Bool,i∈Region.ready md ops up→∀ j∈Region.ready md ops up,j≠i→∀ x,ops[j]?=some x→∀ e∈x.after,Region.binds md e=true→e.on≠i:=by
  intro up hr j hj hne x hx e he hb heq
  obtain⟨h0,-⟩:=mem_ready.1 hr
  obtain⟨-,y,hy,hall⟩:=mem_ready.1 hj
  rw [hx] at hy
  cases hy
  have h1:=hall e he hb
  rw [heq] at h1
  by_cases hs:i<up.size
  ·simp [hs] at h0 h1;rw [h0] at h1;cases h1
  ·simp [Array.getElem?_eq_none (Nat.le_of_not_lt hs)] at h1
 intro k
 induction k with
 | zero=>
   intro up a w hfree hr hy hF H
   refine⟨fun e=>(by rw [e] at hr;cases hr),fun j hj=>?_⟩
   by_cases hji:j=i
   ·subst hji;exact hy.wpOp hi trivial ⟨fun e=>hF (by rwa [getD_set_ne true his] at e),H⟩
   ·have:=ready_mono hj hji
    rw [H.1] at this;cases this
 | succ k ih=>
   intro up a w hfree hr hy hF H
   refine⟨fun e=>(by rw [e] at hr;cases hr),fun j hj=>?_⟩
   by_cases hji:j=i
   ·subst hji;exact hy.wpOp hi trivial ⟨fun e=>hF (by rwa [getD_set_ne true his] at e),H⟩
   ·obtain⟨hjun,x,hx,-⟩:=mem_ready.1 hj
    have step:=wpOp_putIf hx (hfree j x hx hji hjun (notYet up hr j hj hji x hx)) (fun cs b=>hsel i o cs b hi) (fun cs b=>hsel j x cs b hx) hZ hy (H.2 j (ready_mono hj hji))
    have hfree':∀ m y,ops[m]?=some y→m≠i→(up.setIfInBounds j true).getD m true=false→(∀ e∈y.after,Region.binds md e=true→e.on≠i)→o.apart ops y=true:=by
     intro m y hy2 hmi hun hno
     refine hfree m y hy2 hmi ?_ hno
     by_cases hjm:j=m
     ·subst hjm;exact hjun
     ·rwa [getD_set_ne true hjm] at hun
    refine wpOp_mono (fun b x' g=>?_) step
    obtain⟨g1,g2,g3⟩:=g
    have hFx:(up.setIfInBounds j true).getD st true=false→F x':=fun e=>g2 (by
     rw [Array.setIfInBounds_comm _ _ (Ne.symm hji),getD_set_ne true his];exact e)
    refine⟨hFx,ih (up.setIfInBounds j true) b x' hfree' (ready_mono hr (Ne.symm hji)) g1 hFx ?_⟩
    rw [Array.setIfInBounds_comm _ _ hji]
    exact g3
theorem AK{i:Nat}{o:Oper}{v:Value}{k:Nat}{up:Array Bool}{a:Act}{w:World}(hi:ops[i]?=some o)(hs:Region.noSelect ops=true)(hf:Region.free md ops up i=true)(hr:(Region.ready md ops up).contains i=true)
  (his:i≠st) (hZ:∀ c a w,Z (.panic c) (a.put o.dst v) w→Z (.panic c) a w) (hy:YieldsIf P ops (fun _=>True) o v a) (hF:up.getD st true=false→F w)
  (h:Till P md ops Z F st k (up.setIfInBounds i true) (a.put o.dst v) w):Till P md ops Z F st (k+1) up a w:=
 Till.pure1 hi (Region.noSelect_spec hs) his hZ k up a w (Region.free_spec hi hf) (by simpa using hr) hy hF h
theorem Af{i:Nat}{o:Oper}{k:Nat}{up:Array Bool}{a:Act}{w:World}(hr:Region.ready md ops up=[i])(ho:ops[i]?=some o)
  (h:∀ K:Act→World→Prop,Shut (∀ b x,F x→(F x→Till P md ops Z F st k (up.setIfInBounds i true) b x)→K b x)→if Region.wanted o (yielded ops a.tmps)=true then Oper.wp P o a w K Z else K (a.put o.dst undef) w):Till P md ops Z F st (k+1) up a w:=by
 refine⟨fun e=>(by rw [hr] at e;cases e),fun j hj=>?_⟩
 rw [hr] at hj
 obtain rfl:j=i:=by simpa using hj
 exact wpOp_step ho (fun K hK=>h K (fun b x hF hW=>hK b x ⟨fun _=>hF,hW hF⟩))
theorem Ah{i:Nat}{o:Oper}{k:Nat}{up:Array Bool}{a:Act}{w:World}(hr:Region.ready md ops up=[i])(ho:ops[i]?=some o)(hst:(up.setIfInBounds i true).getD st true=true)
  (h:∀ K:Act→World→Prop,Shut (∀ b x,Till P md ops Z F st k (up.setIfInBounds i true) b x→K b x)→if Region.wanted o (yielded ops a.tmps)=true then Oper.wp P o a w K Z else K (a.put o.dst undef) w):Till P md ops Z F st (k+1) up a w:=by
 refine⟨fun e=>(by rw [hr] at e;cases e),fun j hj=>?_⟩
 rw [hr] at hj
 obtain rfl:j=i:=by simpa using hj
 exact wpOp_step ho (fun K hK=>h K (fun b x hW=>hK b x ⟨fun e=>(by rw [hst] at e;cases e),hW⟩))
theorem BR{up:Array Bool}{a:Act}{w:World}(hr:Region.ready md ops up=[])(h:Z .normal a w):∀ k,Till P md ops Z F st k up a w
 | 0=>⟨hr,h⟩
 | _+1=>⟨fun _=>h,by rw [hr];simp⟩
end
end
section
open Go.ChangeShapes Go.WideShapes Go.ChangeAt Go.RowKit
section
variable {P:Program} {ops:Array Oper} {Z:Exit→Act→World→Prop} {md:Region.Mode} {F:World→Prop} {st:Nat}
def DO(ops:Array Oper)(md:Region.Mode):Nat→Nat→Nat→Bool
 | 0,_,_=>false
 | n+1,s,i=>match ops[s]? with
   | some o=>o.after.any fun e=>Region.binds md e&&(e.on==i||DO ops md n e.on i)
   | none=>false
def F8(md:Region.Mode)(ops:Array Oper)(up:Array Bool):Prop:=
 ∀ (j:Nat) (x:Oper),ops[j]?=some x→up.getD j false=true→∀ e∈x.after,Region.binds md e=true→up.getD e.on false=true
def Nb(md:Region.Mode)(ops:Array Oper)(up:Array Bool):Bool:=
 (List.range ops.size).all fun j=>!up.getD j false||((ops[j]?).map (·.after.all fun e=>!Region.binds md e||up.getD e.on false)).getD true
theorem Na{up:Array Bool}(h:Nb md ops up=true):F8 md ops up:=by
 intro j x hx hj e he hb
 have hlt:j<ops.size:=by
  by_cases h:j<ops.size
  ·exact h
  ·rw [Array.getElem?_eq_none (Nat.le_of_not_lt h)] at hx;cases hx
 have h1:=List.all_eq_true.1 h j (List.mem_range.2 hlt)
 rw [hj,hx] at h1
 simp only [Bool.not_true,Bool.false_or,Option.map_some,Option.getD_some] at h1
 have h2:=Array.all_eq_true'.1 h1 e he
 rw [hb] at h2
 simpa using h2
theorem NZ{up:Array Bool}{j:Nat}(h:F8 md ops up)(hr:j∈Region.ready md ops up):F8 md ops (up.setIfInBounds j true):=by
 intro m x hx hm e he hb
 have mono:∀ n,up.getD n false=true→(up.setIfInBounds j true).getD n false=true:=fun n hn=>by
  by_cases hjn:j=n
  ·subst hjn
   by_cases hs:j<up.size
   ·simp [hs]
   ·simp [Array.getElem?_eq_none (Nat.le_of_not_lt hs)] at hn
  ·rwa [getD_set_ne false hjn]
 by_cases hjm:j=m
 ·subst hjm
  obtain⟨-,y,hy,hall⟩:=mem_ready.1 hr
  rw [hx] at hy
  cases hy
  exact mono _ (hall e he hb)
 ·rw [getD_set_ne false hjm] at hm
  exact mono _ (h m x hx hm e he hb)
theorem Fj{up:Array Bool}{i:Nat}(h:F8 md ops up)(hi:up.getD i false=false):∀ n s,DO ops md n s i=true→up.getD s false=false
 | 0,s,hr=>by simp [DO] at hr
 | n+1,s,hr=>by
   unfold DO at hr
   split at hr
   ·rename_i o ho
    obtain⟨e,he,hb⟩:=Array.any_eq_true'.1 hr
    simp only [Bool.and_eq_true,Bool.or_eq_true,beq_iff_eq] at hb
    cases hs:up.getD s false with
    | false=>rfl
    | true=>
      have h1:=h s o ho hs e he hb.1
      rcases hb.2 with h2 | h2
      ·rw [h2,hi] at h1;cases h1
      ·rw [Fj h hi n e.on h2] at h1;cases h1
   ·cases hr
theorem MM{up:Array Bool}{i:Nat}(h:F8 md ops up)(hi:up.getD i false=false){n s:Nat}(hr:DO ops md n s i=true):s∉Region.ready md ops up:=by
 intro hm
 obtain⟨-,y,hy,hall⟩:=mem_ready.1 hm
 cases n with
 | zero=>simp [DO] at hr
 | succ n=>
   rw [DO,hy] at hr
   obtain⟨e,he,hb⟩:=Array.any_eq_true'.1 hr
   simp only [Bool.and_eq_true,Bool.or_eq_true,beq_iff_eq] at hb
   have h1:=hall e he hb.1
   rcases hb.2 with h2 | h2
   ·rw [h2,hi] at h1;cases h1
   ·rw [Fj h hi n e.on h2] at h1;cases h1
theorem Till.firstR{i nn:Nat}{o:Oper}{v:Value}(hi:ops[i]?=some o)(hsel:∀ (j:Nat) (x:Oper) cs b,ops[j]?=some x→x.op≠.select cs b)(hwait:DO ops md nn st i=true)
  (hZ:∀ c a w,Z (.panic c) (a.put o.dst v) w→Z (.panic c) a w):∀ (k:Nat) (up:Array Bool) (a:Act) (w:World),F8 md ops up→up.getD st true=false→
   (∀ j x,ops[j]?=some x→j≠i→up.getD j true=false→(∀ e∈x.after,Region.binds md e=true→e.on≠i)→o.apart ops x=true)→
   i∈Region.ready md ops up→YieldsIf P ops F o v a→F w→Till P md ops Z F st k (up.setIfInBounds i true) (a.put o.dst v) w→Till P md ops Z F st (k+1) up a w:=by
 have notYet:∀ up:Array Bool,i∈Region.ready md ops up→∀ j∈Region.ready md ops up,j≠i→∀ x,ops[j]?=some x→∀ e∈x.after,Region.binds md e=true→e.on≠i:=by
  intro up hr j hj hne x hx e he hb heq
  obtain⟨h0,-⟩:=mem_ready.1 hr
  obtain⟨-,y,hy,hall⟩:=mem_ready.1 hj
  rw [hx] at hy
  cases hy
  have h1:=hall e he hb
  rw [heq] at h1
  by_cases hs:i<up.size
  ·simp [hs] at h0 h1;rw [h0] at h1;cases h1
  ·simp [Array.getElem?_eq_none (Nat.le_of_not_lt hs)] at h1
 have down:∀ up:Array Bool,i∈Region.ready md ops up→up.getD i false=false:=by
  intro up hr
  obtain⟨h0,-⟩:=mem_ready.1 hr
  by_cases hs:i<up.size
  ·simp [hs] at h0 ⊢;exact h0
  ·simp [Array.getElem?_eq_none (Nat.le_of_not_lt hs)] at h0
 intro k
 induction k with
 | zero=>
   intro up a w hcl hst hfree hr hy hF H
   refine⟨fun e=>(by rw [e] at hr;cases hr),fun j hj=>?_⟩
   by_cases hji:j=i
   ·subst hji;exact hy.wpOp hi hF ⟨fun _=>hF,H⟩
   ·have:=ready_mono hj hji
    rw [H.1] at this;cases this
 | succ k ih=>
   intro up a w hcl hst hfree hr hy hF H
   have hnst:=MM hcl (down up hr) hwait
   refine⟨fun e=>(by rw [e] at hr;cases hr),fun j hj=>?_⟩
   by_cases hji:j=i
   ·subst hji;exact hy.wpOp hi hF ⟨fun _=>hF,H⟩
   ·obtain⟨hjun,x,hx,-⟩:=mem_ready.1 hj
    have hjst:j≠st:=fun e=>hnst (e▸hj)
    have hist:i≠st:=fun e=>hnst (e▸hr)
    have hup:(up.setIfInBounds j true).getD st true=false:=by rw [getD_set_ne true hjst];exact hst
    have hup2:((up.setIfInBounds i true).setIfInBounds j true).getD st true=false:=by
     rw [getD_set_ne true hjst,getD_set_ne true hist];exact hst
    have step:=wpOp_putIf hx (hfree j x hx hji hjun (notYet up hr j hj hji x hx)) (fun cs b=>hsel i o cs b hi) (fun cs b=>hsel j x cs b hx) hZ hy (H.2 j (ready_mono hj hji))
    have hfree':∀ m y,ops[m]?=some y→m≠i→(up.setIfInBounds j true).getD m true=false→(∀ e∈y.after,Region.binds md e=true→e.on≠i)→o.apart ops y=true:=by
     intro m y hy2 hmi hun hno
     refine hfree m y hy2 hmi ?_ hno
     by_cases hjm:j=m
     ·subst hjm;exact hjun
     ·rwa [getD_set_ne true hjm] at hun
    refine wpOp_mono (fun b x' g=>?_) step
    obtain⟨g1,g2,g3⟩:=g
    have hFx:F x':=g2 hup2
    refine⟨fun _=>hFx,ih (up.setIfInBounds j true) b x' (NZ hcl hj) hup hfree' (ready_mono hr (Ne.symm hji)) g1 hFx ?_⟩
    rw [Array.setIfInBounds_comm _ _ hji]
    exact g3
theorem J8{i:Nat}{o:Oper}{v:Value}{k:Nat}{up:Array Bool}{a:Act}{w:World}(hi:ops[i]?=some o)(hs:Region.noSelect ops=true)(hf:Region.free md ops up i=true)(hr:(Region.ready md ops up).contains i=true)
  (hwait:DO ops md 4 st i=true) (hcl:Nb md ops up=true) (hst:up.getD st true=false) (hZ:∀ c a w,Z (.panic c) (a.put o.dst v) w→Z (.panic c) a w) (hy:YieldsIf P ops F o v a) (hF:F w)
  (h:Till P md ops Z F st k (up.setIfInBounds i true) (a.put o.dst v) w):Till P md ops Z F st (k+1) up a w:=
 Till.firstR hi (Region.noSelect_spec hs) hwait hZ k up a w (Na hcl) hst (Region.free_spec hi hf) (by simpa using hr) hy hF h
end
end
end Go.Proofs.YtjjlbbfhmpbneaaGreat
