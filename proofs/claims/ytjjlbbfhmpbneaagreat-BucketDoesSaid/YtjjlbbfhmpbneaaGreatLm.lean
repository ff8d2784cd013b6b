/-
  Contracts of slices.Clone, apart, allApart, place, and both Find. Contracts of both Find. How many octets there are: contracts of the program's Octets and the document's. Contracts of both Begin. Contract of the document's Begin. Contract of slices.Delete of one upload. Contract of the document's Abort. Contracts of slices.Grow and slices.Concat of three lists of parts.
-/
import Derived.Test.YtjjlbbfhmpbneaaGreatLd
import Derived.Shelf.Abstract
import Derived.Deep.RegionLaw
import Derived.Lib.SliceRun
import Derived.Lib.SlicesDelete
import Derived.Laws.Cover1
namespace Go.Proofs.YtjjlbbfhmpbneaaGreat
open Lib renaming hid → AC
set_option maxHeartbeats 16000000
set_option maxRecDepth 100000
set_option linter.unusedVariables false
set_option linter.unusedSimpArgs false
section
open Go.ChangeShapes Go.WideShapes Go.ChangeAt Go.RowKit
theorem Fx(l:List Prt)(v:Value)(w:World)(hl:l.length≤4000)(ht:Prts w w.heap.size v l):
  Calls Tryz.prog 139 #[v] w fun e w'=>∃ v',e=.returned v'∧OwnP w.heap.size w' v' l∧Q w w':=by
 have HT:=AC ht
 obtain⟨A,c,rfl⟩:=ht.form
 cases A with
 | none=>
   have hc:c=0∧l=[]:=by
    obtain⟨A',c',e,e0,ez,-,-⟩:=ht
    injection e with e1 e2 e3
    have:=ez e1.symm
    exact⟨by omega,List.length_eq_zero_iff.1 (by omega)⟩
   obtain⟨rfl,rfl⟩:=hc
   simp only [List.length_nil]
   have he:=fun w=>Lib.run_eql_slice_nil (P:=Tryz.prog) w 105 64 none 0 0 0 0 Tryz.underlying105
   go_enter Tryz.func139,Tryz.ntmps139
   go_wp2
   go_ret
   exact⟨_,rfl,OwnP.nil _ _,Q.refl _⟩
 | some a=>
   have q0:=(Q.refl w).alloc (.cells #[] 64)
   have hown:OwnP w.heap.size (w.alloc (.cells #[] 64)) (.slice (some ⟨w.heap.size,0,none⟩) 0 0) []:=World.ownsRow_made w #[] 0 (Nat.le_refl _) (by unfold maxLen;omega) (by simp)
   have HO:=AC hown
   have he:=fun w=>Lib.run_eql_slice_nil (P:=Tryz.prog) w 105 64 (some a) l.length c 0 0 Tryz.underlying105
   clear ht hown
   go_enter Tryz.func139,Tryz.ntmps139
   go_wp2_with (at_builtin;refine Ar _ rfl _ _ 105 Tryz.underlying105 rfl w.heap.size _ _ [] l rfl rfl HO.out (HT.out.below q0) ?hb ?ha ?_;(case hb=>simp);(case ha=>(try simp);omega);intro v2 w2 o2 g2;have b2:=HO.out.grown q0 (by simp) g2;clear g2)
   go_ret
   exact⟨_,rfl,by simpa using o2,b2⟩
theorem Fw(l:List Upl)(v:Value)(w:World)(hl:l.length≤4000)(ht:Upls w w.heap.size v l):
  Calls Tryz.prog 138 #[v] w fun e w'=>∃ v',e=.returned v'∧OwnU w.heap.size w' v' l∧Q w w':=by
 have HT:=AC ht
 obtain⟨A,c,rfl⟩:=ht.form
 cases A with
 | none=>
   have hc:c=0∧l=[]:=by
    obtain⟨A',c',e,e0,ez,-,-⟩:=ht
    injection e with e1 e2 e3
    have:=ez e1.symm
    exact⟨by omega,List.length_eq_zero_iff.1 (by omega)⟩
   obtain⟨rfl,rfl⟩:=hc
   simp only [List.length_nil]
   have he:=fun w=>Lib.run_eql_slice_nil (P:=Tryz.prog) w 23 107 none 0 0 0 0 Tryz.underlying23
   go_enter Tryz.func138,Tryz.ntmps138
   go_wp2
   go_ret
   exact⟨_,rfl,OwnU.nil _ _,Q.refl _⟩
 | some a=>
   have q0:=(Q.refl w).alloc (.cells #[] 107)
   have hown:OwnU w.heap.size (w.alloc (.cells #[] 107)) (.slice (some ⟨w.heap.size,0,none⟩) 0 0) []:=⟨[],rfl,World.ownsRow_made w #[] 0 (Nat.le_refl _) (by unfold maxLen;omega) (by simp),by simp⟩
   have HO:=AC hown
   have he:=fun w=>Lib.run_eql_slice_nil (P:=Tryz.prog) w 23 107 (some a) l.length c 0 0 Tryz.underlying23
   clear ht hown
   go_enter Tryz.func138,Tryz.ntmps138
   go_wp2_with (at_builtin;refine CE _ rfl _ _ 23 Tryz.underlying23 rfl w.heap.size _ [] l rfl rfl HO.out (HT.out.below q0) ?hb ?ha ?_;(case hb=>simp);(case ha=>(try simp);omega);intro v2 w2 o2 g2;have b2:Q w w2:=Below.trans q0 g2;clear g2)
   go_ret
   exact⟨_,rfl,by simpa using o2,b2⟩
theorem F5(u:Upl)(v:Value)(w:World)(hl:u.L.length≤4000)(ht:Prts w w.heap.size v u.L):
  Calls Tryz.prog 147 #[upl u v] w fun e w'=>∃ v',e=.returned (upl u v')∧OwnP w.heap.size w' v' u.L∧Q w w':=by
 obtain⟨id,key,L⟩:=u
 simp only at hl ht
 obtain⟨A,c,rfl⟩:=ht.form
 obtain⟨n,hn⟩:∃ n,L.length=n:=⟨_,rfl⟩
 rw [hn] at ht
 have CL:Hid (∀ d,Q w d→Calls Tryz.prog 139 #[.slice A n c] d fun e w'=>∃ v',e=.returned v'∧OwnP d.heap.size w' v' L∧Q d w'):=AC (fun d q=>Fx L _ d hl (ht.on q))
 have q0:=((Q.refl w).alloc (.cells #[.int .u64 (id:Nat),.string key,.slice A n c] 107)).alloc (.cells #[.int .u64 0,.string ⟨#[]⟩,.slice none 0 0] 107)
 rw [upl]
 simp only
 rw [hn]
 clear ht hl hn
 have X0:∀ d,Q ((w.alloc (.cells #[.int .u64 (id:Nat),.string key,.slice A n c] 107)).alloc (.cells #[.int .u64 0,.string ⟨#[]⟩,.slice none 0 0] 107)) d→
   d.heap[w.heap.size]?=some (.cells #[.int .u64 (id:Nat),.string key,.slice A n c] 107 (0,0))∧d.heap[w.heap.size+1]?=some (.cells #[.int .u64 0,.string ⟨#[]⟩,.slice none 0 0] 107 (0,0)):=fun d q=>by
  refine⟨(q.block w.heap.size (by simp;omega)).trans ?_,(q.block (w.heap.size+1) (by simp)).trans ?_⟩
  ·rw [Below.heap_alloc _ _ _ (by simp)];exact heap_alloc_new w _
  ·have:=heap_alloc_new (w.alloc (.cells #[.int .u64 (id:Nat),.string key,.slice A n c] 107)) (.cells #[.int .u64 0,.string ⟨#[]⟩,.slice none 0 0] 107)
   rw [World.size_alloc] at this;exact this
 have HX:=AC X0
 clear X0
 go_enter Tryz.func147,Tryz.ntmps147
 go_wp2_with fail
 refine(CL.out _ q0).mono ?_
 rintro e w1 ⟨v1,rfl,o1,q1⟩
 obtain⟨x1,x2⟩:=HX.out _ q1
 have b1:Bx w1 w.heap.size 107 #[.int .u64 (id:Nat),.string key,.slice A n c]:=x1
 have b2:Bx w1 (w.heap.size+1) 107 #[.int .u64 0,.string ⟨#[]⟩,.slice none 0 0]:=x2
 have qq:=q0.trans q1
 have o2:=AC (OwnP.low o1 q0.size)
 have o3:=AC o1
 obtain⟨A3,n3,c3,rfl⟩:∃ A n c,v1=.slice A n c:=by obtain⟨A,c,e⟩:=o1.form;exact⟨A,_,c,e⟩
 clear x1 x2 o1
 have f0:=b1.cell 0
 have f1:=b1.cell 1
 have f2:=b1.cell 2
 have g2:=b1.frozen 2
 have r0:=b2.cell 0
 have r1:=b2.cell 1
 have r2:=b2.cell 2
 have h0:=b2.frozen 0
 have h1:=b2.frozen 1
 have h2:=b2.frozen 2
 simp only [List.getElem?_toArray,List.getElem?_cons_zero,List.getElem?_cons_succ] at f0 f1 f2 r0 r1 r2
 go_wp2
 (try simp only [Exit.inBlock,Exit.then])
 obtain⟨wC,hwC⟩:∃ wC,wC=(((w1.setCell ⟨w.heap.size,2,none⟩ (.slice A3 n3 c3)).setCell ⟨w.heap.size+1,0,none⟩ (.int .u64 (id:Nat))).setCell ⟨w.heap.size+1,1,none⟩ (.string key)).setCell ⟨w.heap.size+1,2,none⟩ (.slice A3 n3 c3):=⟨_,rfl⟩
 have bD:Bx wC (w.heap.size+1) 107 #[.int .u64 (id:Nat),.string key,.slice A3 n3 c3]:=by rw [hwC];exact((((b2.other (by omega) _ _).set 0 _).set 1 _).set 2 _)
 have oC:OwnP w.heap.size wC (.slice A3 n3 c3) L:=by
  rw [hwC]
  refine OwnP.low (base:=w.heap.size+2) ?_ (by omega)
  have o4:OwnP (w.heap.size+2) w1 (.slice A3 n3 c3) L:=by have:=o3.out;rw [World.size_alloc,World.size_alloc] at this;exact this
  exact AS (AS (AS (AS o4 (by omega)) (by omega)) (by omega)) (by omega)
 have qC:Q w wC:=by rw [hwC];exact Q.set (Q.set (Q.set (Q.set qq (Nat.le_refl _) _) (by omega) _) (by omega) _) (by omega) _
 rw [← hwC]
 have v0:=bD.cell 0
 have v1:=bD.cell 1
 have v2:=bD.cell 2
 simp only [List.getElem?_toArray,List.getElem?_cons_zero,List.getElem?_cons_succ] at v0 v1 v2
 refine bodyPost_ret (v:=.agg #[.int .u64 (id:Nat),.string key,.slice A3 n3 c3]) ?_ rfl ⟨_,rfl,oC,qC⟩
 simp [results,Tryz.results147,go_sem,v0,v1,v2]
theorem Cq(l:List Upl)(v:Value)(w:World)(hs:smL l)(ht:Upls w w.heap.size v l):
  Calls Tryz.prog 143 #[v] w fun e w'=>∃ v',e=.returned v'∧OwnU w.heap.size w' v' l∧Q w w':=by
 have hl:=hs.1
 have CL:=AC (Fw l v w (by omega) ht)
 have HS:=AC hs.2
 obtain⟨A0,c0,rfl⟩:=ht.form
 clear ht hs
 go_enter Tryz.func143,Tryz.ntmps143
 go_wp2_with fail
 refine(CL.out).mono ?_
 rintro e w1 ⟨v1,rfl,own1,q1⟩
 clear CL
 obtain⟨A,c,rfl⟩:=own1.form
 go_wp2_with fail
 go_loopw [4,5,10] (fun _ _ I wr=>∃ i:Nat,i≤l.length∧I=.int .i64 i∧OwnU w.heap.size wr (.slice A l.length c) l∧Q w wr) (fun _ _ I _=>l.length - (intOf I).toNat)
 case atStart=>exact⟨0,Nat.zero_le _,rfl,own1,q1⟩
 case round=>
  obtain⟨i,hil,rfl,hown,q⟩:=hrel
  clear own1 q1
  by_cases hlt:i<l.length
  ·obtain⟨P,hP,r,f⟩:=hown
   have hPl:P.length=l.length:=by rw [← hP,List.length_map]
   obtain⟨a,hA,ha1,ha2,hat⟩:=r.at i (by omega)
   subst hA
   have hpi:P[i]'(by omega)∈P:=List.getElem_mem _
   have hx1:(P[i]'(by omega)).1=l[i]:=by simp [← hP]
   have hx2:=(HS.out _ (List.getElem_mem hlt)).2.1
   have ap0:=(f _ hpi).2
   rw [← hx1] at hx2
   obtain⟨x,hx⟩:∃ x,x=P[i]'(by omega):=⟨_,rfl⟩
   have HXX:=AC hx
   rw [← hx] at hat ap0 hx2
   obtain⟨x,u⟩:=x
   dsimp only at hat ap0 hx2
   clear hx hx1 hpi
   have hvs:=ap0.read q.size
   obtain⟨A2,c2,rfl⟩:=hvs.form
   obtain⟨d0,d1,d2,-⟩:=hat _ (Q.refl _)
   have HAT:=AC hat
   have CV:Hid (∀ d,Q wr d→Calls Tryz.prog 147 #[upl x (.slice A2 x.L.length c2)] d fun e w'=>∃ v',e=.returned (upl x v')∧OwnP d.heap.size w' v' x.L∧Q d w'):=AC (fun d k=>F5 x _ d (by omega) (hvs.on k))
   rw [upl] at CV
   have R:=AC r
   have F:=AC f
   have hok:=AC ap0.1
   have HP:=AC hP
   have hilt:(i:Int)<(l.length:Int):=by omega
   have hq3:=(Q.refl wr).alloc (.cells #[.int .u64 (x.id:Nat),.string x.key,.slice A2 x.L.length c2] 107)
   clear hat hvs ap0 r f hP
   go_wp2_with fail
   refine(CV.out _ hq3).mono ?_
   rintro e wc ⟨v3,rfl,o3,q3⟩
   obtain⟨A3,n3,c3,rfl⟩:∃ A n c,v3=.slice A n c:=by obtain⟨A,c,e⟩:=o3.form;exact⟨A,_,c,e⟩
   have qc:Q wr wc:=hq3.trans q3
   obtain⟨e0,e1,e2,k0,k1,k2⟩:=HAT.out _ qc
   have r3:=R.out.on qc
   have f3:∀ p∈P,DC w.heap.size wc p:=fun p hp=>⟨(F.out p hp).1,(F.out p hp).2.on qc q.size⟩
   have u3:AptU w.heap.size wc (.slice A3 n3 c3) x.L:=⟨hok.out,by unfold maxLen;omega,.inr (OwnP.low o3 (by have:=q.size;simp;omega))⟩
   have s3:=r3.store_all f3 i (by omega) u3 ((q.trans qc).size)
   have hset:(P.map (·.1)).set i {(P[i]'(by omega)).1 with L:=x.L}=l:=by
    rw [← HXX.out,HP.out]
    refine List.ext_getElem (by simp) fun j h1 h2=>?_
    rw [List.getElem_set]
    split
    ·rename_i e;subst e
     have:x=l[i]:=by have:=congrArg Prod.fst HXX.out;simpa [← HP.out] using this
     rw [← this]
    ·rfl
   rw [hset,← HXX.out] at s3
   dsimp only at s3
   have b3:Q w (((wc.setCell (a.add (i*3)) (.int .u64 (x.id:Nat))).setCell ⟨(a.add (i*3)).block,(a.add (i*3)).off+1,none⟩ (.string x.key)).setCell ⟨(a.add (i*3)).block,(a.add (i*3)).off+2,none⟩ (.slice A3 n3 c3)):=
    Q.set (Q.set (Below.setCell (q.trans qc) (by rw [AG];exact ha1) _) (by rw [AG];exact ha1) _) (by rw [AG];exact ha1) _
   have n1:a.add (i*3)≠⟨(a.add (i*3)).block,(a.add (i*3)).off+1,none⟩:=fun e=>by have:=congrArg Addr.off e;simp at this
   have n2:a.add (i*3)≠⟨(a.add (i*3)).block,(a.add (i*3)).off+2,none⟩:=fun e=>by have:=congrArg Addr.off e;simp at this
   have n3':(⟨(a.add (i*3)).block,(a.add (i*3)).off+1,none⟩:Addr)≠⟨(a.add (i*3)).block,(a.add (i*3)).off+2,none⟩:=fun e=>by have:=congrArg Addr.off e;simp at this
   have y1:(wc.setCell (a.add (i*3)) (.int .u64 (x.id:Nat))).cell? ⟨(a.add (i*3)).block,(a.add (i*3)).off+1,none⟩=some (.string x.key):=(World.cell?_setCell_other _ _ _ _ n1).trans e1
   have y2:((wc.setCell (a.add (i*3)) (.int .u64 (x.id:Nat))).setCell ⟨(a.add (i*3)).block,(a.add (i*3)).off+1,none⟩ (.string x.key)).cell? ⟨(a.add (i*3)).block,(a.add (i*3)).off+2,none⟩=some (.slice A2 x.L.length c2):=(World.cell?_setCell_other _ _ _ _ n3').trans ((World.cell?_setCell_other _ _ _ _ n2).trans e2)
   clear r3 f3 u3 o3 hset n1 n2 n3'
   rw [upl]
   go_wp2
   go_roundw
   case rel=>exact⟨i+1,by omega,by go_num,s3,b3⟩
   case measure=>simp [intOf];omega
  ·have h2:¬ (i:Int)<(l.length:Int):=by omega
   go_wp2
   go_ret
   exact⟨_,rfl,hown,q⟩
def Kw(l:List Upl)(id:Nat):Int:=match l.findIdx? (fun x=>decide (x.id=id)) with
 | some i=>(i:Nat)
 | none=>-1
theorem DY{l:List Upl}{id i:Nat}(hl:i<l.length)(h:l[i].id=id)(k:∀ j (hj:j<i) (hl:j<l.length),l[j].id≠id):Kw l id=i:=by
 have:l.findIdx? (fun x=>decide (x.id=id))=some i:=by
  rw [List.findIdx?_eq_some_iff_getElem]
  exact⟨hl,by simpa using h,fun j hj=>by simpa using k j hj (by omega)⟩
 rw [Kw,this]
theorem DX{l:List Upl}{id:Nat}(k:∀ j (hl:j<l.length),l[j].id≠id):Kw l id = -1:=by
 have:l.findIdx? (fun x=>decide (x.id=id))=none:=by
  rw [List.findIdx?_eq_none_iff]
  intro x hx
  obtain⟨j,hj,rfl⟩:=List.getElem_of_mem hx
  simpa using k j hj
 rw [Kw,this]
theorem EC(l:List Upl)(id:Nat):(Kw l id = -1∧∀ j (hl:j<l.length),l[j].id≠id)∨∃ i,∃ h:i<l.length,Kw l id=(i:Nat)∧l[i].id=id∧∀ j (hj:j<i) (hl:j<l.length),l[j].id≠id:=by
 cases h:l.findIdx? (fun x=>decide (x.id=id)) with
 | some i=>
   have h':=h
   rw [List.findIdx?_eq_some_iff_getElem] at h
   obtain⟨hi,hp,hk⟩:=h
   exact .inr ⟨i,hi,by rw [Kw,h'],by simpa using hp,fun j hj hl=>by simpa using hk j hj⟩
 | none=>
   have h':=h
   rw [List.findIdx?_eq_none_iff] at h
   exact .inl ⟨by rw [Kw,h'],fun j hl=>by simpa using h _ (List.getElem_mem hl)⟩
theorem Mv(i id:Nat)(k:ByteArray)(u:Value)(hu:∃ A n c,u=.slice A n c)(B:Nat)(w:World)(hc:w.cell? ⟨B,0,none⟩=some (.int .u64 (id:Nat)))(hB:B<w.heap.size):
  Calls Tryz.prog 163 #[.agg #[.int .u64 (i:Nat),.string k,u],.pointer (some ⟨B,0,none⟩)] w fun e w'=>e=.returned (.bool (decide (i=id)))∧Q w w':=by
 have HQ:=AC (fun o=>(Q.refl w).alloc o)
 have hne:B≠w.heap.size:=by omega
 obtain⟨A,n,c,rfl⟩:=hu
 by_cases h:i=id
 ·subst h
  go_enter Tryz.func163,Tryz.ntmps163
  go_wp2
  go_ret
  exact⟨AE (by simp),HQ.out _⟩
 ·have h1:¬ (i:Int)=(id:Int):=by omega
  have HV:Hid (decide (i=id)=false):=AC (by simp [h])
  clear h
  go_enter Tryz.func163,Tryz.ntmps163
  go_wp2
  go_ret
  exact⟨AE (by rw [HV.out];try (simp;try omega)),HQ.out _⟩
theorem TK:∀ args w,(callFunc 163 args).run Tryz.prog w=.ok (.enter 163 args) w:=enters_of Tryz.func163 (by kernel_rfl) rfl
theorem Fb(g B:Nat)(id:Nat)(l:List Upl)(v:Value)(w:World)(eg:∀ args w,(callFunc g args).run Tryz.prog w=.ok (.enter g args) w)
  (hp:∀ i k A n c b,Q w b→Calls Tryz.prog g #[.agg #[.int .u64 (i:Nat),.string k,.slice A n c],.pointer (some ⟨B,0,none⟩)] b fun e w'=>e=.returned (.bool (decide (i=id)))∧Q b w')
  (hl:l.length≤1000) (ht:Upls w w.heap.size v l) :
  Calls Tryz.prog 136 #[v,.func (.func g) #[] #[.pointer (some ⟨B,0,none⟩)]] w fun e w'=>e=.returned (.int .i64 (Kw l id))∧Q w w':=by
 have HT:=AC ht
 have HP:=AC hp
 obtain⟨A,c,rfl⟩:=ht.form
 clear ht hp
 go_enter Tryz.func136,Tryz.ntmps136
 go_wp2_with fail
 go_loopw [5,8] (fun _ I wr=>∃ i:Nat,i≤l.length∧I=.int .i64 i∧Q w wr∧Hid (∀ j (hj:j<i) (hl:j<l.length),l[j].id≠id)) (fun _ I _=>l.length - (intOf I).toNat)
 case atStart=>exact⟨0,Nat.zero_le _,rfl,Q.refl _,AC (fun j h=>by omega)⟩
 case round=>
  obtain⟨i,hil,rfl,q,HK⟩:=hrel
  by_cases hlt:i<l.length
  ·obtain⟨a,c',hv,ha,A2,c2,hvs,hat⟩:=HT.out.pick i hlt
   injection hv with e1 e2 e3
   subst e1 e3
   obtain⟨d0,d1,d2⟩:=hat _ q
   have C:=HP.out l[i].id l[i].key A2 l[i].L.length c2 wr q
   by_cases hpx:l[i].id=id
   ·have HV:=AC (DY hlt hpx HK.out)
    rw [decide_eq_true hpx] at C
    obtain⟨x,hx⟩:∃ x,x=l[i]:=⟨_,rfl⟩
    rw [← hx] at d0 d1 d2 C
    have C:=AC C
    clear hx hpx hat hvs
    go_wp2_with (go_at_fn g;refine(C.out).mono ?_;rintro e w1 ⟨rfl,q1⟩)
    go_ret
    exact⟨by rw [HV.out];rfl,q.trans q1⟩
   ·have HK2:Hid (∀ j (hj:j<i+1) (hl:j<l.length),l[j].id≠id):=AC (fun j hj hl=>by
     by_cases e:j=i
     ·subst e;exact hpx
     ·exact HK.out j (by omega) hl)
    rw [decide_eq_false hpx] at C
    obtain⟨x,hx⟩:∃ x,x=l[i]:=⟨_,rfl⟩
    rw [← hx] at d0 d1 d2 C
    have C:=AC C
    clear hx hpx hat hvs
    go_wp2_with (go_at_fn g;refine(C.out).mono ?_;rintro e w1 ⟨rfl,q1⟩)
    go_roundw
    case rel=>exact⟨i+1,by omega,by go_num,q.trans q1,HK2⟩
    case measure=>simp [intOf];omega
  ·have HV:=AC (DX (l:=l) (id:=id) (fun j hl=>HK.out j (by omega) hl))
   go_wp2
   go_ret
   exact⟨by rw [HV.out];rfl,q⟩
theorem Dk(l:List Upl)(v:Value)(id:Nat)(w:World)(hl:l.length≤1000)(ht:Upls w w.heap.size v l):
  Calls Tryz.prog 144 #[v,.int .u64 (id:Nat)] w fun e w'=>e=.returned (.int .i64 (Kw l id))∧Q w w':=by
 have q0:Q w (w.alloc (.cells #[.int .u64 (id:Nat)] 24)):=(Q.refl w).alloc _
 have C:=AC (Fb 163 w.heap.size id l v (w.alloc (.cells #[.int .u64 (id:Nat)] 24)) TK
  (fun i k A n c b q=>Mv i id k _ ⟨A,n,c,rfl⟩ w.heap.size b ((Below.cell q (p:=⟨w.heap.size,0,none⟩) (by simp)).trans (by simp)) (Nat.lt_of_lt_of_le (by simp) (Q.size q))) hl (ht.on q0))
 have hmf:=@HMF
 go_enter Tryz.func144,Tryz.ntmps144
 go_wp2_with fail
 refine(C.out).mono ?_
 rintro e w1 ⟨rfl,q1⟩
 go_wp2
 go_ret
 exact⟨rfl,q0.trans q1⟩
end
section
open Go.ChangeShapes Go.WideShapes Go.ChangeAt Go.RowKit
def noU:Upl:=⟨0,⟨#[]⟩,[]⟩
inductive FindC(l:List Upl)(id:Nat):Upl→Nat→Prop
 | arg:¬ Ab l→FindC l id noU 1
 | none:Ab l→(∀ j (hl:j<l.length),l[j].id≠id)→FindC l id noU 4
 | yes (i:Nat) (h:i<l.length):Ab l→l[i].id=id→(∀ j (hj:j<i) (hl:j<l.length),l[j].id≠id)→FindC l id l[i] 0
theorem Ji(l:List Upl)(id:Nat):∃ r e,FindC l id r e:=by
 by_cases h:Ab l
 ·rcases EC l id with⟨-,k⟩ | ⟨i,hi,-,k,m⟩
  ·exact⟨_,_,.none h k⟩
  ·exact⟨_,_,.yes i hi h k m⟩
 ·exact⟨_,_,.arg h⟩
theorem NA(l:List Upl)(v:Value)(id:Nat)(w:World)(r:Upl)(e:Nat)(h:FindC l id r e)(hs:smL l)(ht:Upls w w.heap.size v l):
  Calls Tryz.prog 114 #[v,.int .u64 (id:Nat)] w fun x w'=>∃ u,x=.returned (.tuple #[upl r u,.int .i64 (e:Nat)])∧OwnP w.heap.size w' u r.L∧Q w w':=by
 have HT:=AC ht
 have hl:=hs.1
 have q0:=(Q.refl w).alloc (.cells #[.int .u64 0,.string ⟨#[]⟩,.slice none 0 0] 107)
 have bx0:=Bx.new w 107 #[.int .u64 0,.string ⟨#[]⟩,.slice none 0 0]
 have CK:∀ R,Chk (Ab l) R→Calls Tryz.prog 47 #[v] (w.alloc (.cells #[.int .u64 0,.string ⟨#[]⟩,.slice none 0 0] 107)) fun e w'=>e=.returned (.int .i64 (Nj R))∧Q (w.alloc (.cells #[.int .u64 0,.string ⟨#[]⟩,.slice none 0 0] 107)) w':=fun R hR=>CJ l v _ R hR hs (ht.on q0)
 have PL:Hid (∀ d,Q w d→Calls Tryz.prog 144 #[v,.int .u64 (id:Nat)] d fun e w'=>e=.returned (.int .i64 (Kw l id))∧Q d w'):=AC fun d q=>Dk l v id d hl (ht.on q)
 obtain⟨A,c,rfl⟩:=ht.form
 cases h with
 | arg hno=>
   have C:=AC (CK false (.inr ⟨rfl,hno⟩))
   clear CK ht hs hno PL
   go_enter Tryz.func114,Tryz.ntmps114
   go_wp2_with fail
   refine(C.out).mono ?_
   rintro e w1 ⟨rfl,q1⟩
   have bx:=bx0.on q1
   have r0:=bx.cell 0
   have r1:=bx.cell 1
   have r2:=bx.cell 2
   have h0:=bx.frozen 0
   have h1:=bx.frozen 1
   have h2:=bx.frozen 2
   simp only [List.getElem?_toArray,List.getElem?_cons_zero,List.getElem?_cons_succ] at r0 r1 r2
   go_wp2
   (try simp only [Exit.inBlock,Exit.then])
   obtain⟨wC,hwC⟩:∃ wC,wC=((w1.setCell ⟨w.heap.size,0,none⟩ (.int .u64 0)).setCell ⟨w.heap.size,1,none⟩ (.string ⟨#[]⟩)).setCell ⟨w.heap.size,2,none⟩ (.slice none 0 0):=⟨_,rfl⟩
   have bD:Bx wC w.heap.size 107 #[.int .u64 0,.string ⟨#[]⟩,.slice none 0 0]:=by rw [hwC];exact((bx.set 0 _).set 1 _).set 2 _
   have qC:Q w wC:=by rw [hwC];exact Q.set (Q.set (Q.set (q0.trans q1) (Nat.le_refl _) _) (Nat.le_refl _) _) (Nat.le_refl _) _
   rw [← hwC]
   have v0:=bD.cell 0
   have v1:=bD.cell 1
   have v2:=bD.cell 2
   simp only [List.getElem?_toArray,List.getElem?_cons_zero,List.getElem?_cons_succ] at v0 v1 v2
   refine bodyPost_ret (v:=.tuple #[.agg #[.int .u64 0,.string ⟨#[]⟩,.slice none 0 0],.int .i64 1]) ?_ rfl ⟨_,rfl,OwnP.nil _ _,qC⟩
   rw [results_cell_tmp rfl]
   go_simp
 | none hok hno=>
   have C:=AC (CK true (.inl ⟨rfl,hok⟩))
   have e1:=DX hno
   rw [e1] at PL
   clear CK ht hs hok hno e1
   go_enter Tryz.func114,Tryz.ntmps114
   go_wp2_with fail
   refine(C.out).mono ?_
   rintro e w1 ⟨rfl,q1⟩
   go_wp2_with fail
   refine(PL.out _ (q0.trans q1)).mono ?_
   rintro e w2 ⟨rfl,q2⟩
   have bx:=bx0.on (q1.trans q2)
   have r0:=bx.cell 0
   have r1:=bx.cell 1
   have r2:=bx.cell 2
   have h0:=bx.frozen 0
   have h1:=bx.frozen 1
   have h2:=bx.frozen 2
   simp only [List.getElem?_toArray,List.getElem?_cons_zero,List.getElem?_cons_succ] at r0 r1 r2
   go_wp2
   (try simp only [Exit.inBlock,Exit.then])
   obtain⟨wC,hwC⟩:∃ wC,wC=((w2.setCell ⟨w.heap.size,0,none⟩ (.int .u64 0)).setCell ⟨w.heap.size,1,none⟩ (.string ⟨#[]⟩)).setCell ⟨w.heap.size,2,none⟩ (.slice none 0 0):=⟨_,rfl⟩
   have bD:Bx wC w.heap.size 107 #[.int .u64 0,.string ⟨#[]⟩,.slice none 0 0]:=by rw [hwC];exact((bx.set 0 _).set 1 _).set 2 _
   have qC:Q w wC:=by rw [hwC];exact Q.set (Q.set (Q.set (q0.trans (q1.trans q2)) (Nat.le_refl _) _) (Nat.le_refl _) _) (Nat.le_refl _) _
   rw [← hwC]
   have v0:=bD.cell 0
   have v1:=bD.cell 1
   have v2:=bD.cell 2
   simp only [List.getElem?_toArray,List.getElem?_cons_zero,List.getElem?_cons_succ] at v0 v1 v2
   refine bodyPost_ret (v:=.tuple #[.agg #[.int .u64 0,.string ⟨#[]⟩,.slice none 0 0],.int .i64 4]) ?_ rfl ⟨_,rfl,OwnP.nil _ _,qC⟩
   rw [results_cell_tmp rfl]
   go_simp
 | yes i hlt hok hid hlo=>
   have C:=AC (CK true (.inl ⟨rfl,hok⟩))
   have e1:=DY hlt hid hlo
   rw [e1] at PL
   have hx2:=(hs.2 _ (List.getElem_mem hlt)).2.1
   obtain⟨a,c',hv,ha,A2,c2,hps,hat⟩:=HT.out.pick i hlt
   injection hv with e1 e2 e3
   subst e1 e3
   obtain⟨x,hx⟩:∃ x,x=l[i]:=⟨_,rfl⟩
   rw [← hx] at hps hat hx2 ⊢
   have AP:Hid (∀ d,Q w d→Calls Tryz.prog 147 #[upl x (.slice A2 x.L.length c2)] d fun e w'=>∃ v',e=.returned (upl x v')∧OwnP d.heap.size w' v' x.L∧Q d w'):=AC fun d q=>F5 x _ d (by omega) (hps.on q)
   rw [upl] at AP
   have HAT:=AC hat
   have hilt:(i:Int)<(l.length:Int):=by omega
   have hi0:¬ (i:Int)<0:=by omega
   clear CK ht hs hok hid hlo e2 hx hps hat hx2
   go_enter Tryz.func114,Tryz.ntmps114
   go_wp2_with fail
   refine(C.out).mono ?_
   rintro e w1 ⟨rfl,q1⟩
   go_wp2_with fail
   refine(PL.out _ (q0.trans q1)).mono ?_
   rintro e w2 ⟨rfl,q2⟩
   obtain⟨d0,d1,d2⟩:=HAT.out _ (q0.trans (q1.trans q2))
   go_wp2_with fail
   refine(AP.out _ (q0.trans (q1.trans q2))).mono ?_
   rintro e w3 ⟨v3,rfl,o3,q3⟩
   obtain⟨A3,n3,c3,rfl⟩:∃ A n c,v3=.slice A n c:=by obtain⟨A,c,e⟩:=o3.form;exact⟨A,_,c,e⟩
   have bx:=bx0.on (q1.trans (q2.trans q3))
   have s2:w.heap.size<w2.heap.size:=by have:=(q1.trans q2).size;rw [World.size_alloc] at this;omega
   have o4:=AC (OwnP.low o3 s2)
   clear o3 HAT
   rw [upl]
   have r0:=bx.cell 0
   have r1:=bx.cell 1
   have r2:=bx.cell 2
   have h0:=bx.frozen 0
   have h1:=bx.frozen 1
   have h2:=bx.frozen 2
   simp only [List.getElem?_toArray,List.getElem?_cons_zero,List.getElem?_cons_succ] at r0 r1 r2
   go_wp2
   (try simp only [Exit.inBlock,Exit.then])
   obtain⟨wC,hwC⟩:∃ wC,wC=((w3.setCell ⟨w.heap.size,0,none⟩ (.int .u64 (x.id:Nat))).setCell ⟨w.heap.size,1,none⟩ (.string x.key)).setCell ⟨w.heap.size,2,none⟩ (.slice A3 n3 c3):=⟨_,rfl⟩
   have bD:Bx wC w.heap.size 107 #[.int .u64 (x.id:Nat),.string x.key,.slice A3 n3 c3]:=by rw [hwC];exact((bx.set 0 _).set 1 _).set 2 _
   have qC:Q w wC:=by rw [hwC];exact Q.set (Q.set (Q.set (q0.trans (q1.trans (q2.trans q3))) (Nat.le_refl _) _) (Nat.le_refl _) _) (Nat.le_refl _) _
   have oC:OwnP w.heap.size wC (.slice A3 n3 c3) x.L:=by rw [hwC];exact OwnP.low (base:=w.heap.size+1) (AS (AS (AS o4.out (by omega)) (by omega)) (by omega)) (by omega)
   rw [← hwC]
   have v0:=bD.cell 0
   have v1:=bD.cell 1
   have v2:=bD.cell 2
   simp only [List.getElem?_toArray,List.getElem?_cons_zero,List.getElem?_cons_succ] at v0 v1 v2
   refine bodyPost_ret (v:=.tuple #[.agg #[.int .u64 (x.id:Nat),.string x.key,.slice A3 n3 c3],.int .i64 0]) ?_ rfl ⟨.slice A3 n3 c3,rfl,oC,qC⟩
   rw [results_cell_tmp rfl]
   go_simp
theorem Cs(l:List Upl)(v:Value)(id:Nat)(w:World)(r:Upl)(e:Nat)(h:FindC l id r e)(hs:smL l)(ht:Upls w w.heap.size v l):
  Calls Tryz.prog 89 #[v,.int .u64 (id:Nat)] w fun x w'=>∃ u,x=.returned (.tuple #[upl r u,.int .i64 (e:Nat)])∧Prts w w.heap.size u r.L∧Q w w':=by
 have HT:=AC ht
 have hl:=hs.1
 have q0:=(Q.refl w).alloc (.cells #[.int .u64 0,.string ⟨#[]⟩,.slice none 0 0] 107)
 have bx0:=Bx.new w 107 #[.int .u64 0,.string ⟨#[]⟩,.slice none 0 0]
 have CK:∀ R,Chk (Ab l) R→Calls Tryz.prog 52 #[v] (w.alloc (.cells #[.int .u64 0,.string ⟨#[]⟩,.slice none 0 0] 107)) fun e w'=>e=.returned (.bool R)∧Q (w.alloc (.cells #[.int .u64 0,.string ⟨#[]⟩,.slice none 0 0] 107)) w':=fun R hR=>Eg l v _ R hR hs (ht.on q0)
 obtain⟨A,c,rfl⟩:=ht.form
 by_cases hok:Ab l
 ·have C:=AC (CK true (.inl ⟨rfl,hok⟩))
  have HH:Hid (FindC l id r e):=AC h
  have HO:=AC hok
  clear CK ht hs h hok
  go_enter Tryz.func89,Tryz.ntmps89
  go_wp2_with fail
  refine(C.out).mono ?_
  rintro e w1 ⟨rfl,q1⟩
  have bx1:=bx0.on q1
  have q2:=q0.trans q1
  clear q1 q0 bx0
  go_wp2_with fail
  go_loopw [6] (fun I wr=>∃ i:Nat,i≤l.length∧I=.int .i64 i∧Q w wr∧Bx wr w.heap.size 107 #[.int .u64 0,.string ⟨#[]⟩,.slice none 0 0]∧Hid (∀ j (hj:j<i) (hl:j<l.length),l[j].id≠id)) (fun I _=>l.length - (intOf I).toNat)
  case atStart=>exact⟨0,Nat.zero_le _,rfl,q2,bx1,AC (fun j h=>by omega)⟩
  case round=>
   obtain⟨i,hil,rfl,q,bx,HK⟩:=hrel
   clear q2 bx1
   by_cases hlt:i<l.length
   ·obtain⟨a,c',hv,ha,A2,c2,hps,hat⟩:=HT.out.pick i hlt
    injection hv with e1 e2 e3
    subst e1 e3
    obtain⟨d0,d1,d2⟩:=hat _ q
    have hilt:(i:Int)<(l.length:Int):=by omega
    by_cases hid:l[i].id=id
    ·have HV:Hid (r=l[i]∧e=0):=AC (by
      have:=HH.out
      cases this with
      | arg h=>exact absurd HO.out h
      | none _ h=>exact absurd hid (h i hlt)
      | yes j hj _ h1 h2=>
        have:j=i:=by
         rcases Nat.lt_trichotomy j i with k | k | k
         ·exact absurd h1 (HK.out j k hj)
         ·exact k
         ·exact absurd hid (h2 i k hlt)
        subst this;exact⟨rfl,rfl⟩)
     obtain⟨x,hx⟩:∃ x,x=l[i]:=⟨_,rfl⟩
     rw [← hx] at d0 d1 d2 hps HV hid
     have HX:=AC hid
     rw [hid] at d0
     have HPS:=AC hps
     clear hx hat hps hid e2
     have r0:=bx.cell 0
     have r1:=bx.cell 1
     have r2:=bx.cell 2
     have h0:=bx.frozen 0
     have h1:=bx.frozen 1
     have h2:=bx.frozen 2
     simp only [List.getElem?_toArray,List.getElem?_cons_zero,List.getElem?_cons_succ] at r0 r1 r2
     go_wp2
     (try simp only [Exit.inBlock,Exit.then])
     obtain⟨wC,hwC⟩:∃ wC,wC=((wr.setCell ⟨w.heap.size,0,none⟩ (.int .u64 (id:Nat))).setCell ⟨w.heap.size,1,none⟩ (.string x.key)).setCell ⟨w.heap.size,2,none⟩ (.slice A2 x.L.length c2):=⟨_,rfl⟩
     have bD:Bx wC w.heap.size 107 #[.int .u64 (id:Nat),.string x.key,.slice A2 x.L.length c2]:=by rw [hwC];exact((bx.set 0 _).set 1 _).set 2 _
     have qC:Q w wC:=by rw [hwC];exact Q.set (Q.set (Q.set q (Nat.le_refl _) _) (Nat.le_refl _) _) (Nat.le_refl _) _
     rw [← hwC]
     have v0:=bD.cell 0
     have v1:=bD.cell 1
     have v2:=bD.cell 2
     simp only [List.getElem?_toArray,List.getElem?_cons_zero,List.getElem?_cons_succ] at v0 v1 v2
     refine bodyPost_ret (v:=.tuple #[.agg #[.int .u64 (id:Nat),.string x.key,.slice A2 x.L.length c2],.int .i64 0]) ?_ rfl ⟨.slice A2 x.L.length c2,by rw [HV.out.1,HV.out.2,upl,HX.out];rfl,by rw [HV.out.1];exact HPS.out,qC⟩
     rw [results_cell_tmp rfl]
     go_simp
    ·have HK2:Hid (∀ j (hj:j<i+1) (hl:j<l.length),l[j].id≠id):=AC (fun j hj hl=>by
      by_cases e:j=i
      ·subst e;exact hid
      ·exact HK.out j (by omega) hl)
     obtain⟨x,hx⟩:∃ x,x=l[i].id:=⟨_,rfl⟩
     rw [← hx] at d0 hid
     have hii:¬ (x:Int)=(id:Int):=by omega
     clear hx hat hps hid e2 d1 d2
     go_wp2
     go_roundw
     case rel=>exact⟨i+1,by omega,by go_num,q,bx,HK2⟩
     case measure=>simp [intOf];omega
   ·have HV:Hid (r=noU∧e=4):=AC (by
     have:=HH.out
     cases this with
     | arg h=>exact absurd HO.out h
     | none _ h=>exact⟨rfl,rfl⟩
     | yes j hj _ h1 h2=>exact absurd h1 (HK.out j (by omega) hj))
    have hilt:¬ (i:Int)<(l.length:Int):=by omega
    have r0:=bx.cell 0
    have r1:=bx.cell 1
    have r2:=bx.cell 2
    have h0:=bx.frozen 0
    have h1:=bx.frozen 1
    have h2:=bx.frozen 2
    simp only [List.getElem?_toArray,List.getElem?_cons_zero,List.getElem?_cons_succ] at r0 r1 r2
    go_wp2
    (try simp only [Exit.inBlock,Exit.then])
    obtain⟨wC,hwC⟩:∃ wC,wC=((wr.setCell ⟨w.heap.size,0,none⟩ (.int .u64 0)).setCell ⟨w.heap.size,1,none⟩ (.string ⟨#[]⟩)).setCell ⟨w.heap.size,2,none⟩ (.slice none 0 0):=⟨_,rfl⟩
    have bD:Bx wC w.heap.size 107 #[.int .u64 0,.string ⟨#[]⟩,.slice none 0 0]:=by rw [hwC];exact((bx.set 0 _).set 1 _).set 2 _
    have qC:Q w wC:=by rw [hwC];exact Q.set (Q.set (Q.set q (Nat.le_refl _) _) (Nat.le_refl _) _) (Nat.le_refl _) _
    rw [← hwC]
    have v0:=bD.cell 0
    have v1:=bD.cell 1
    have v2:=bD.cell 2
    simp only [List.getElem?_toArray,List.getElem?_cons_zero,List.getElem?_cons_succ] at v0 v1 v2
    refine bodyPost_ret (v:=.tuple #[.agg #[.int .u64 0,.string ⟨#[]⟩,.slice none 0 0],.int .i64 4]) ?_ rfl ⟨.slice none 0 0,by rw [HV.out.1,HV.out.2];rfl,by rw [HV.out.1];exact Prts.nil _ _,qC⟩
    rw [results_cell_tmp rfl]
    go_simp
 ·have C:=AC (CK false (.inr ⟨rfl,hok⟩))
  have HV:Hid (r=noU∧e=1):=AC (by
   cases h with
   | arg h=>exact⟨rfl,rfl⟩
   | none h _=>exact absurd h hok
   | yes j hj h _ _=>exact absurd h hok)
  clear CK ht hs hok h
  go_enter Tryz.func89,Tryz.ntmps89
  go_wp2_with fail
  refine(C.out).mono ?_
  rintro e w1 ⟨rfl,q1⟩
  have bx:=bx0.on q1
  have r0:=bx.cell 0
  have r1:=bx.cell 1
  have r2:=bx.cell 2
  have h0:=bx.frozen 0
  have h1:=bx.frozen 1
  have h2:=bx.frozen 2
  simp only [List.getElem?_toArray,List.getElem?_cons_zero,List.getElem?_cons_succ] at r0 r1 r2
  go_wp2
  (try simp only [Exit.inBlock,Exit.then])
  obtain⟨wC,hwC⟩:∃ wC,wC=((w1.setCell ⟨w.heap.size,0,none⟩ (.int .u64 0)).setCell ⟨w.heap.size,1,none⟩ (.string ⟨#[]⟩)).setCell ⟨w.heap.size,2,none⟩ (.slice none 0 0):=⟨_,rfl⟩
  have bD:Bx wC w.heap.size 107 #[.int .u64 0,.string ⟨#[]⟩,.slice none 0 0]:=by rw [hwC];exact((bx.set 0 _).set 1 _).set 2 _
  have qC:Q w wC:=by rw [hwC];exact Q.set (Q.set (Q.set (q0.trans q1) (Nat.le_refl _) _) (Nat.le_refl _) _) (Nat.le_refl _) _
  rw [← hwC]
  have v0:=bD.cell 0
  have v1:=bD.cell 1
  have v2:=bD.cell 2
  simp only [List.getElem?_toArray,List.getElem?_cons_zero,List.getElem?_cons_succ] at v0 v1 v2
  refine bodyPost_ret (v:=.tuple #[.agg #[.int .u64 0,.string ⟨#[]⟩,.slice none 0 0],.int .i64 1]) ?_ rfl ⟨.slice none 0 0,by rw [HV.out.1,HV.out.2];rfl,by rw [HV.out.1];exact Prts.nil _ _,qC⟩
  rw [results_cell_tmp rfl]
  go_simp
end
section
open Go.ChangeShapes Go.WideShapes Go.ChangeAt Go.RowKit
def D4(L:List Prt):Nat:=(L.map fun p=>p.data.size).sum
def DD(l:List Upl):Nat:=(l.map fun u=>D4 u.L).sum
theorem G9{L:List Prt}{j:Nat}(h:j<L.length):D4 (L.take (j+1))=D4 (L.take j)+L[j].data.size:=by
 rw [List.take_succ_eq_append_getElem h,D4,D4,List.map_append,List.sum_append];simp
theorem G8{l:List Upl}{i:Nat}(h:i<l.length):DD (l.take (i+1))=DD (l.take i)+D4 l[i].L:=by
 rw [List.take_succ_eq_append_getElem h,DD,DD,List.map_append,List.sum_append];simp
theorem RF{L:List Prt}(h:∀ x∈L,x.data.size≤5000):D4 L≤5000*L.length:=by
 induction L with
 | nil=>simp [D4]
 | cons y r ih=>
   have h1:=ih fun x hx=>h x (List.mem_cons_of_mem _ hx)
   have h2:=h y (List.mem_cons_self ..)
   simp only [D4,List.map_cons,List.sum_cons,List.length_cons] at h1 ⊢;omega
theorem Oi{L:List Prt}(h:∀ x∈L,x.data.size≤5000)(hl:L.length≤1000)(j:Nat):D4 (L.take j)≤5000000:=by
 have:=RF (L:=L.take j) fun x hx=>h x (List.mem_of_mem_take hx)
 have h2:(L.take j).length≤L.length:=by rw [List.length_take];omega
 omega
theorem RE{l:List Upl}(h:∀ x∈l,smU x):DD l≤5000000*l.length:=by
 induction l with
 | nil=>simp [DD]
 | cons y r ih=>
   have h1:=ih fun x hx=>h x (List.mem_cons_of_mem _ hx)
   have h2:=h y (List.mem_cons_self ..)
   have h3:=Oi h2.2.2 h2.2.1 y.L.length
   rw [List.take_length] at h3
   simp only [DD,List.map_cons,List.sum_cons,List.length_cons] at h1 ⊢;omega
theorem GH{l:List Upl}(h:smL l)(i:Nat):DD (l.take i)≤5000000000:=by
 have:=RE (l:=l.take i) fun x hx=>h.2 x (List.mem_of_mem_take hx)
 have h2:(l.take i).length≤l.length:=by rw [List.length_take];omega
 have:=h.1
 omega
theorem Ke(l:List Upl)(v:Value)(w:World)(hs:smL l)(ht:Upls w w.heap.size v l):
  Calls Tryz.prog 101 #[v] w fun e w'=>e=.returned (.int .i64 (DD l:Nat))∧Q w w':=by
 have HT:=AC ht
 have HS:=AC hs
 have hl:=hs.1
 obtain⟨A,c,rfl⟩:=ht.form
 clear ht hs
 go_enter Tryz.func101,Tryz.ntmps101
 go_wp2_with fail
 go_loopw [3,5,7,10] (fun S _ _ I wr=>∃ i t:Nat,i≤l.length∧I=.int .i64 i∧S=.int .i64 (t:Nat)∧t≤5000000000∧Hid (t=DD (l.take i))∧Q w wr) (fun _ _ _ I _=>l.length - (intOf I).toNat)
 case atStart=>exact⟨0,0,Nat.zero_le _,rfl,rfl,by omega,AC (by simp [DD]),Q.refl _⟩
 case round=>
  obtain⟨i,t,hil,rfl,rfl,ht9,HTT,q⟩:=hrel
  by_cases hlt:i<l.length
  ·obtain⟨a,c',hv,ha,A2,c2,hps,hat⟩:=HT.out.pick i hlt
   injection hv with e1 e2 e3
   subst e1 e3
   have hilt:(i:Int)<(l.length:Int):=by omega
   have hsm:=HS.out.2 _ (List.getElem_mem hlt)
   have HN:=AC (G8 hlt)
   have H9:=AC (GH HS.out (i+1))
   obtain⟨p,hp⟩:∃ p,p=l[i]:=⟨_,rfl⟩
   rw [← hp] at hat hps hsm HN
   have HPS:=AC hps
   have HAT:Hid (∀ d,Q w d→d.cell? (a.add (i*3))=some (.int .u64 (p.id:Nat))∧d.cell? ⟨(a.add (i*3)).block,(a.add (i*3)).off+1,none⟩=some (.string p.key)∧d.cell? ⟨(a.add (i*3)).block,(a.add (i*3)).off+2,none⟩=some (.slice A2 p.L.length c2)):=AC hat
   obtain⟨u0,u1,u2⟩:=hat _ q
   have hm:=hsm.2.1
   obtain⟨n,hn⟩:∃ n,p.L.length=n:=⟨_,rfl⟩
   rw [hn] at u2 HAT hm
   have HSM:=AC hsm
   have HPN:=AC hn
   clear hat e2 hp hps hsm hn
   have q1:=q.alloc (.cells #[.int .u64 (p.id:Nat),.string p.key,.slice A2 n c2] 107)
   go_wp2_with fail
   go_loopw [3,7,17] (fun S _ J wz=>∃ j m:Nat,j≤n∧J=.int .i64 j∧S=.int .i64 (m:Nat)∧m≤5000000000∧Hid (m=t+D4 (p.L.take j))∧Q w wz) (fun _ _ J _=>n - (intOf J).toNat)
   case atStart=>exact⟨0,t,Nat.zero_le _,rfl,rfl,ht9,AC (by simp [D4]),q1⟩
   case round=>
    obtain⟨j,m,hjn,rfl,rfl,hm9,HM,qz⟩:=hrel
    clear u0 u1 u2
    obtain⟨u0,u1,u2⟩:=HAT.out _ qz
    by_cases hjl:j<n
    ·have hjL:j<p.L.length:=by have:=HPN.out;omega
     obtain⟨b,c3,hv3,hb,-,hbt⟩:=HPS.out.pick j hjL
     injection hv3 with f1 f2 f3
     subst f1 f3
     have hjlt:(j:Int)<(n:Int):=by omega
     have hsz:=HSM.out.2.2 _ (List.getElem_mem hjL)
     have HJ:=AC (G9 hjL)
     obtain⟨x,hx⟩:∃ x,x=p.L[j]:=⟨_,rfl⟩
     rw [← hx] at hbt hsz HJ
     obtain⟨d0,d1⟩:=hbt _ qz
     have HX:Hid (m+x.data.size=t+D4 (p.L.take (j+1))):=AC (by rw [HM.out,HJ.out];omega)
     have hbound:m+x.data.size≤5000000000:=by
      have h1:=HX.out;have h2:=H9.out;have h3:=HN.out;have h4:=HTT.out
      have h5:D4 (p.L.take (j+1))≤D4 p.L:=by
       have:p.L=p.L.take (j+1)++p.L.drop (j+1):=(List.take_append_drop ..).symm
       conv=>rhs;rw [this]
       rw [D4,D4,List.map_append,List.sum_append];omega
      omega
     obtain⟨z,hz⟩:∃ z,z=x.data.size:=⟨_,rfl⟩
     clear hbt hx f2
     have q3:=qz.alloc (.cells #[.int .i64 x.n,.string x.data] 64)
     go_wp2
     go_roundw
     case rel=>exact⟨j+1,m+x.data.size,by omega,by go_num,by go_num,hbound,HX,q3⟩
     case measure=>simp [intOf];omega
    ·have HX:Hid (m=DD (l.take (i+1))):=AC (by
      have h1:=HM.out
      have h2:j=p.L.length:=by have:=HPN.out;omega
      rw [h2,List.take_length] at h1
      rw [HN.out,← HTT.out];exact h1)
     have hjlt:¬ (j:Int)<(n:Int):=by omega
     go_wp2
     go_roundw
     case rel=>exact⟨i+1,m,by omega,by go_num,rfl,hm9,HX,qz⟩
     case measure=>simp [intOf];omega
  ·have HV:Hid (t=DD l):=AC (by have:=HTT.out;rw [List.take_of_length_le (by omega)] at this;exact this)
   have hilt:¬ (i:Int)<(l.length:Int):=by omega
   go_wp2
   go_ret
   exact⟨by rw [HV.out];rfl,q⟩
theorem IX(l:List Upl)(v:Value)(w:World)(hs:smL l)(ht:Upls w w.heap.size v l):
  Calls Tryz.prog 71 #[v] w fun e w'=>e=.returned (.int .i64 (DD l:Nat))∧Q w w':=by
 have HT:=AC ht
 have HS:=AC hs
 have hl:=hs.1
 obtain⟨A,c,rfl⟩:=ht.form
 clear ht hs
 go_enter Tryz.func71,Tryz.ntmps71
 go_wp2_with fail
 go_loopw [3,4,5] (fun S I _ wr=>∃ i t:Nat,i≤l.length∧I=.int .i64 i∧S=.int .i64 (t:Nat)∧t≤5000000000∧Hid (t=DD (l.take i))∧Q w wr) (fun _ I _ _=>l.length - (intOf I).toNat)
 case atStart=>exact⟨0,0,Nat.zero_le _,rfl,rfl,by omega,AC (by simp [DD]),Q.refl _⟩
 case round=>
  obtain⟨i,t,hil,rfl,rfl,ht9,HTT,q⟩:=hrel
  by_cases hlt:i<l.length
  ·obtain⟨a,c',hv,ha,A2,c2,hps,hat⟩:=HT.out.pick i hlt
   injection hv with e1 e2 e3
   subst e1 e3
   have hilt:(i:Int)<(l.length:Int):=by omega
   have hsm:=HS.out.2 _ (List.getElem_mem hlt)
   have HN:=AC (G8 hlt)
   have H9:=AC (GH HS.out (i+1))
   obtain⟨p,hp⟩:∃ p,p=l[i]:=⟨_,rfl⟩
   rw [← hp] at hat hps hsm HN
   have HPS:=AC hps
   have HAT:Hid (∀ d,Q w d→d.cell? (a.add (i*3))=some (.int .u64 (p.id:Nat))∧d.cell? ⟨(a.add (i*3)).block,(a.add (i*3)).off+1,none⟩=some (.string p.key)∧d.cell? ⟨(a.add (i*3)).block,(a.add (i*3)).off+2,none⟩=some (.slice A2 p.L.length c2)):=AC hat
   obtain⟨u0,u1,u2⟩:=hat _ q
   have hm:=hsm.2.1
   obtain⟨n,hn⟩:∃ n,p.L.length=n:=⟨_,rfl⟩
   rw [hn] at u2 HAT hm
   have HSM:=AC hsm
   have HPN:=AC hn
   clear hat e2 hp hps hsm hn
   go_wp2_with fail
   go_loopw [3,5] (fun S J wz=>∃ j m:Nat,j≤n∧J=.int .i64 j∧S=.int .i64 (m:Nat)∧m≤5000000000∧Hid (m=t+D4 (p.L.take j))∧Q w wz) (fun _ J _=>n - (intOf J).toNat)
   case atStart=>exact⟨0,t,Nat.zero_le _,rfl,rfl,ht9,AC (by simp [D4]),q⟩
   case round=>
    obtain⟨j,m,hjn,rfl,rfl,hm9,HM,qz⟩:=hrel
    clear u0 u1 u2
    obtain⟨u0,u1,u2⟩:=HAT.out _ qz
    by_cases hjl:j<n
    ·have hjL:j<p.L.length:=by have:=HPN.out;omega
     obtain⟨b,c3,hv3,hb,-,hbt⟩:=HPS.out.pick j hjL
     injection hv3 with f1 f2 f3
     subst f1 f3
     have hjlt:(j:Int)<(n:Int):=by omega
     have hsz:=HSM.out.2.2 _ (List.getElem_mem hjL)
     have HJ:=AC (G9 hjL)
     obtain⟨x,hx⟩:∃ x,x=p.L[j]:=⟨_,rfl⟩
     rw [← hx] at hbt hsz HJ
     obtain⟨d0,d1⟩:=hbt _ qz
     have HX:Hid (m+x.data.size=t+D4 (p.L.take (j+1))):=AC (by rw [HM.out,HJ.out];omega)
     have hbound:m+x.data.size≤5000000000:=by
      have h1:=HX.out;have h2:=H9.out;have h3:=HN.out;have h4:=HTT.out
      have h5:D4 (p.L.take (j+1))≤D4 p.L:=by
       have:p.L=p.L.take (j+1)++p.L.drop (j+1):=(List.take_append_drop ..).symm
       conv=>rhs;rw [this]
       rw [D4,D4,List.map_append,List.sum_append];omega
      omega
     obtain⟨z,hz⟩:∃ z,z=x.data.size:=⟨_,rfl⟩
     clear hbt hx f2
     go_wp2
     go_roundw
     case rel=>exact⟨j+1,m+x.data.size,by omega,by go_num,by go_num,hbound,HX,qz⟩
     case measure=>simp [intOf];omega
    ·have HX:Hid (m=DD (l.take (i+1))):=AC (by
      have h1:=HM.out
      have h2:j=p.L.length:=by have:=HPN.out;omega
      rw [h2,List.take_length] at h1
      rw [HN.out,← HTT.out];exact h1)
     have hjlt:¬ (j:Int)<(n:Int):=by omega
     go_wp2
     go_roundw
     case rel=>exact⟨i+1,m,by omega,by go_num,rfl,hm9,HX,qz⟩
     case measure=>simp [intOf];omega
  ·have HV:Hid (t=DD l):=AC (by have:=HTT.out;rw [List.take_of_length_le (by omega)] at this;exact this)
   have hilt:¬ (i:Int)<(l.length:Int):=by omega
   go_wp2
   go_ret
   exact⟨by rw [HV.out];rfl,q⟩
end
section
open Go.ChangeShapes Go.WideShapes Go.ChangeAt Go.RowKit
inductive BeginC(l:List Upl)(id:Nat)(key:ByteArray):List Upl→Nat→Prop
 | arg:¬ (Ab l∧Cl id key=true)→BeginC l id key [] 1
 | order:Ab l→Cl id key=true→(∃ x∈l,id≤x.id)→BeginC l id key [] 9
 | large:Ab l→Cl id key=true→(∀ x∈l,x.id<id)→l.length=10→BeginC l id key [] 6
 | yes:Ab l→Cl id key=true→(∀ x∈l,x.id<id)→l.length<10→BeginC l id key (l ++ [⟨id,key,[]⟩]) 0
theorem Nu(l:List Upl)(id:Nat)(key:ByteArray):∃ r e,BeginC l id key r e:=by
 by_cases h:Ab l∧Cl id key=true
 ·by_cases k:∃ x∈l,id≤x.id
  ·exact⟨_,_,.order h.1 h.2 k⟩
  ·have k':∀ x∈l,x.id<id:=fun x hx=>by
    rcases Nat.lt_or_ge x.id id with h | h
    ·exact h
    ·exact absurd ⟨x,hx,h⟩ k
   by_cases m:l.length=10
   ·exact⟨_,_,.large h.1 h.2 k' m⟩
   ·exact⟨_,_,.yes h.1 h.2 k' (by have:=h.1.1;omega)⟩
 ·exact⟨_,_,.arg h⟩
theorem Cw{l:List Upl}(h:Ab l)(i j:Nat)(hij:i<j)(hj:j<l.length):(l[i]'(by omega)).id<l[j].id:=by
 obtain⟨d,rfl⟩:∃ d,j=i+d+1:=⟨j - i - 1,by omega⟩
 induction d with
 | zero=>exact(h.2 (i+1) hj).2 i rfl
 | succ d ih=>exact Nat.lt_trans (ih (by omega) (by omega)) ((h.2 (i+(d+1)+1) hj).2 (i+d+1) rfl)
theorem Pg{l:List Upl}(h:Ab l){j:Nat}(hj:j+1=l.length)(id:Nat):(∃ x∈l,id≤x.id)↔id≤(l[j]'(by omega)).id:=by
 refine⟨fun ⟨x,hx,hi⟩=>?_,fun hi=>⟨_,List.getElem_mem _,hi⟩⟩
 obtain⟨k,hk,rfl⟩:=List.getElem_of_mem hx
 by_cases e:k=j
 ·subst e;exact hi
 ·have:=Cw h k j (by omega) (by omega);omega
theorem Rc{id:Nat}{key:ByteArray}(h:¬ Cl id key=true):Cl id key=false:=by simpa using h
theorem LV(l:List Upl)(v:Value)(id:Nat)(key:ByteArray)(w:World)(r:List Upl)(e:Nat)(h:BeginC l id key r e)(hs:smL l)(hk:key.size≤1000)(ht:Upls w w.heap.size v l):
  Calls Tryz.prog 112 #[v,.int .u64 (id:Nat),.string key] w fun x w'=>∃ u,x=.returned (.tuple #[u,.int .i64 (e:Nat)])∧Upls w' w'.heap.size u r∧Q w w':=by
 have HT:=AC ht
 have hl:=hs.1
 have CK:∀ R,Chk (Ab l) R→Calls Tryz.prog 47 #[v] w fun e w'=>e=.returned (.int .i64 (Nj R))∧Q w w':=fun R hR=>CJ l v w R hR hs ht
 have MB:=fun d=>Dx id key d hk
 have AA:Hid (∀ d,Q w d→Calls Tryz.prog 143 #[v] d fun e w'=>∃ v',e=.returned v'∧OwnU d.heap.size w' v' l∧Q d w'):=AC fun d q=>Cq l v d hs (ht.on q)
 by_cases hok:Ab l
 ·have C:=AC (CK true (.inl ⟨rfl,hok⟩))
  by_cases hb:Cl id key=true
  ·rw [hb] at MB
   have M:=AC MB
   have hid':=hb
   rw [Cl,Bool.and_eq_true,Cx] at hid'
   have hid1:=hid'.1
   have HP:Hid (∀ b d,DC b d ((⟨id,key,[]⟩:Upl),.slice none 0 0)):=AC fun b d=>⟨⟨by show id<_;omega,by unfold maxLen;show key.size≤_;omega,by simp⟩,by simp,by simp,.inr (OwnP.nil _ _)⟩
   obtain⟨A,c,rfl⟩:=ht.form
   have l10:=hok.1
   by_cases h0:l.length=0
   ·have hn0:¬ (0:Int)<(l.length:Int):=by omega
    have hn1:¬ (l.length:Int)=10:=by omega
    have HV:Hid (r=l ++ [⟨id,key,[]⟩]∧e=0):=AC (by
     have e0:l=[]:=List.length_eq_zero_iff.1 h0
     cases h with
     | arg h=>exact absurd ⟨hok,hb⟩ h
     | order _ _ h=>obtain⟨x,hx,-⟩:=h;rw [e0] at hx;simp at hx
     | large _ _ _ h=>omega
     | yes=>exact⟨rfl,rfl⟩)
    clear CK ht hs h hok hb MB hid' h0
    go_enter Tryz.func112,Tryz.ntmps112
    go_wp2_with fail
    refine(C.out).mono ?_
    rintro e w1 ⟨rfl,q1⟩
    go_wp2_with fail
    refine(M.out _).mono ?_
    rintro e w2 ⟨rfl,q2⟩
    go_wp2_with fail
    refine(AA.out _ (q1.trans q2)).mono ?_
    rintro e w3 ⟨v3,rfl,o3,q3⟩
    have hb3:=q3.size
    have o4:=o3.on ((Q.refl w3).alloc (.cells #[.int .u64 (id:Nat),.string key,.slice none 0 0] 107)) hb3
    go_wp2_with ((at_builtin;refine Am _ rfl _ _ 23 Tryz.underlying23 rfl w2.heap.size w3.heap.size _ l (⟨id,key,[]⟩,.slice none 0 0) rfl rfl (An w3 (⟨id,key,[]⟩,.slice none 0 0) 107) o4 (HP.out _ _) ?hb ?hl ?_;(case hb=>simp;omega);(case hl=>omega);intro v5 w5 o5 g5;have q5:Q w w5:=(q1.trans q2).trans (Below.trans (q3.alloc _) g5)))
    go_ret2
    exact⟨_,by rw [HV.out.2];rfl,by rw [HV.out.1];exact o5.read (by have:=q5.size;have h6:=g5.size;simp at h6;omega),q5⟩
   ·obtain⟨j,hj⟩:∃ j,j+1=l.length:=⟨l.length - 1,by omega⟩
    obtain⟨a,c',hv,ha,A2,c2,-,hat⟩:=HT.out.pick j (by omega)
    injection hv with e1 e2 e3
    subst e1 e3
    have hT:=Pg hok hj id
    have hn0:(0:Int)<(l.length:Int):=by omega
    have hj1:(l.length:Int) - 1=(j:Int):=by omega
    have wj:IntKind.i64.wrap (j:Int)=(j:Int):=by rw [IntKind.wrap_i64];omega
    have hj2:(j:Int)<(l.length:Int):=by omega
    obtain⟨y,hy⟩:∃ y,y=(l[j]'(by omega)).id:=⟨_,rfl⟩
    have HAT:Hid (∀ d,Q w d→d.cell? (a.add (j*3))=some (.int .u64 (y:Nat))):=AC fun d q=>by rw [hy];exact(hat d q).1
    rw [← hy] at hT
    by_cases hle:id≤y
    ·have hle':(id:Int)≤(y:Int):=by omega
     have HV:Hid (r=[]∧e=9):=AC (by
      cases h with
      | arg h=>exact absurd ⟨hok,hb⟩ h
      | order _ _ h=>exact⟨rfl,rfl⟩
      | large _ _ h _=>obtain⟨x,hx,hi⟩:=hT.2 hle;have:=h x hx;omega
      | yes _ _ h _=>obtain⟨x,hx,hi⟩:=hT.2 hle;have:=h x hx;omega)
     clear CK ht hs h hok hb MB hid' h0 hat hT hj hy e2 hid1
     go_enter Tryz.func112,Tryz.ntmps112
     go_wp2_with fail
     refine(C.out).mono ?_
     rintro e w1 ⟨rfl,q1⟩
     go_wp2_with fail
     refine(M.out _).mono ?_
     rintro e w2 ⟨rfl,q2⟩
     have d0:=HAT.out _ (q1.trans q2)
     go_wp2
     go_ret2
     exact⟨_,by rw [HV.out.2];rfl,by rw [HV.out.1];exact Upls.nil _ _,q1.trans q2⟩
    ·have hle':¬ (id:Int)≤(y:Int):=by omega
     by_cases h10:l.length=10
     ·have hn1:(l.length:Int)=10:=by omega
      have HV:Hid (r=[]∧e=6):=AC (by
       cases h with
       | arg h=>exact absurd ⟨hok,hb⟩ h
       | order _ _ h=>exact absurd (hT.1 h) hle
       | large _ _ h _=>exact⟨rfl,rfl⟩
       | yes _ _ _ h=>omega)
      have HLL:Hid (((l.length:Int)==10)=true):=AC (by simp [hn1])
      have hb10:=HLL.out
      clear CK ht hs h hok hb MB hid' h0 hat hT hj hy e2 hid1 hn1 HLL h10
      go_enter Tryz.func112,Tryz.ntmps112
      go_wp2_with fail
      refine(C.out).mono ?_
      rintro e w1 ⟨rfl,q1⟩
      go_wp2_with fail
      refine(M.out _).mono ?_
      rintro e w2 ⟨rfl,q2⟩
      have d0:=HAT.out _ (q1.trans q2)
      go_wp2
      go_ret2
      exact⟨_,by rw [HV.out.2];rfl,by rw [HV.out.1];exact Upls.nil _ _,q1.trans q2⟩
     ·have hn1:¬ (l.length:Int)=10:=by omega
      have HV:Hid (r=l ++ [⟨id,key,[]⟩]∧e=0):=AC (by
       cases h with
       | arg h=>exact absurd ⟨hok,hb⟩ h
       | order _ _ h=>exact absurd (hT.1 h) hle
       | large _ _ _ h=>omega
       | yes=>exact⟨rfl,rfl⟩)
      clear CK ht hs h hok hb MB hid' h0 hat hT hj hy e2 hid1
      go_enter Tryz.func112,Tryz.ntmps112
      go_wp2_with fail
      refine(C.out).mono ?_
      rintro e w1 ⟨rfl,q1⟩
      go_wp2_with fail
      refine(M.out _).mono ?_
      rintro e w2 ⟨rfl,q2⟩
      have d0:=HAT.out _ (q1.trans q2)
      go_wp2_with fail
      refine(AA.out _ (q1.trans q2)).mono ?_
      rintro e w3 ⟨v3,rfl,o3,q3⟩
      have hb3:=q3.size
      have o4:=o3.on ((Q.refl w3).alloc (.cells #[.int .u64 (id:Nat),.string key,.slice none 0 0] 107)) hb3
      go_wp2_with ((at_builtin;refine Am _ rfl _ _ 23 Tryz.underlying23 rfl w2.heap.size w3.heap.size _ l (⟨id,key,[]⟩,.slice none 0 0) rfl rfl (An w3 (⟨id,key,[]⟩,.slice none 0 0) 107) o4 (HP.out _ _) ?hb ?hl ?_;(case hb=>simp;omega);(case hl=>omega);intro v5 w5 o5 g5;have q5:Q w w5:=(q1.trans q2).trans (Below.trans (q3.alloc _) g5)))
      go_ret2
      exact⟨_,by rw [HV.out.2];rfl,by rw [HV.out.1];exact o5.read (by have:=q5.size;have h6:=g5.size;simp at h6;omega),q5⟩
  ·have M:Hid (∀ d,Calls Tryz.prog 133 #[.int .u64 (id:Nat),.string key] d fun e w'=>e=.returned (.bool false)∧Q d w'):=AC (by rw [Rc hb] at MB;exact MB)
   have HV:Hid (r=[]∧e=1):=AC (by
    cases h with
    | arg h=>exact⟨rfl,rfl⟩
    | order _ h _=>exact absurd h hb
    | large _ h _ _=>exact absurd h hb
    | yes _ h _ _=>exact absurd h hb)
   clear CK ht hs h hok hb MB
   go_enter Tryz.func112,Tryz.ntmps112
   go_wp2_with fail
   refine(C.out).mono ?_
   rintro e w1 ⟨rfl,q1⟩
   go_wp2_with fail
   refine(M.out _).mono ?_
   rintro e w2 ⟨rfl,q2⟩
   go_wp2
   go_ret2
   exact⟨_,by rw [HV.out.2];rfl,by rw [HV.out.1];exact Upls.nil _ _,q1.trans q2⟩
 ·have C:=AC (CK false (.inr ⟨rfl,hok⟩))
  have HV:Hid (r=[]∧e=1):=AC (by
   cases h with
   | arg h=>exact⟨rfl,rfl⟩
   | order h _ _=>exact absurd h hok
   | large h _ _ _=>exact absurd h hok
   | yes h _ _ _=>exact absurd h hok)
  clear CK ht hs h hok MB
  go_enter Tryz.func112,Tryz.ntmps112
  go_wp2_with fail
  refine(C.out).mono ?_
  rintro e w1 ⟨rfl,q1⟩
  go_wp2
  go_ret2
  exact⟨_,by rw [HV.out.2];rfl,by rw [HV.out.1];exact Upls.nil _ _,q1⟩
end
section
open Go.ChangeShapes Go.WideShapes Go.ChangeAt Go.RowKit
theorem MV(w:World):OwnU w.heap.size (w.alloc (.cells #[] 107)) (.slice (some ⟨w.heap.size,0,none⟩) 0 0) []:=⟨[],rfl,World.ownsRow_made w #[] 0 (Nat.le_refl _) (by unfold maxLen;omega) (by simp),by simp⟩
theorem Ia(l:List Upl)(v:Value)(id:Nat)(key:ByteArray)(w:World)(r:List Upl)(e:Nat)(h:BeginC l id key r e)(hs:smL l)(hk:key.size≤1000)(ht:Upls w w.heap.size v l):
  Calls Tryz.prog 86 #[v,.int .u64 (id:Nat),.string key] w fun x w'=>∃ u,x=.returned (.tuple #[u,.int .i64 (e:Nat)])∧Upls w' w'.heap.size u r∧Q w w':=by
 have HT:=AC ht
 have hl:=hs.1
 have CK:∀ R,Chk (Ab l) R→Calls Tryz.prog 52 #[v] w fun e w'=>e=.returned (.bool R)∧Q w w':=fun R hR=>Eg l v w R hR hs ht
 have N0:=fun d=>Fp id d
 have K0:=fun d=>Bn key d hk
 by_cases hok:Ab l
 ·have C:=AC (CK true (.inl ⟨rfl,hok⟩))
  cases hn:Pa id with
  | false=>
    have hno:¬ (Ab l∧Cl id key=true):=fun k=>by have:=k.2;rw [Cl,hn] at this;simp at this
    have HV:Hid (r=[]∧e=1):=AC (by
     cases h with
     | arg h=>exact⟨rfl,rfl⟩
     | order h1 h2 _=>exact absurd ⟨h1,h2⟩ hno
     | large h1 h2 _ _=>exact absurd ⟨h1,h2⟩ hno
     | yes h1 h2 _ _=>exact absurd ⟨h1,h2⟩ hno)
    rw [hn] at N0
    have N:=AC N0
    clear CK ht hs h hok hn hno N0 K0
    go_enter Tryz.func86,Tryz.ntmps86
    go_wp2_with fail
    refine(C.out).mono ?_
    rintro e w1 ⟨rfl,q1⟩
    go_wp2_with fail
    refine(N.out _).mono ?_
    rintro e w2 ⟨rfl,rfl⟩
    go_wp2
    go_ret2
    exact⟨_,by rw [HV.out.2];rfl,by rw [HV.out.1];exact Upls.nil _ _,q1⟩
  | true=>
    rw [hn] at N0
    have N:=AC N0
    cases hkk:BD 1 60 ko key with
    | false=>
      have hno:¬ (Ab l∧Cl id key=true):=fun k=>by have:=k.2;rw [Cl,hn,hkk] at this;simp at this
      have HV:Hid (r=[]∧e=1):=AC (by
       cases h with
       | arg h=>exact⟨rfl,rfl⟩
       | order h1 h2 _=>exact absurd ⟨h1,h2⟩ hno
       | large h1 h2 _ _=>exact absurd ⟨h1,h2⟩ hno
       | yes h1 h2 _ _=>exact absurd ⟨h1,h2⟩ hno)
      rw [hkk] at K0
      have K:=AC K0
      clear CK ht hs h hok hn hkk hno N0 K0
      go_enter Tryz.func86,Tryz.ntmps86
      go_wp2_with fail
      refine(C.out).mono ?_
      rintro e w1 ⟨rfl,q1⟩
      go_wp2_with fail
      refine(N.out _).mono ?_
      rintro e w2 ⟨rfl,rfl⟩
      go_wp2_with fail
      refine(K.out _).mono ?_
      rintro e w3 ⟨rfl,rfl⟩
      go_wp2
      go_ret2
      exact⟨_,by rw [HV.out.2];rfl,by rw [HV.out.1];exact Upls.nil _ _,q1⟩
    | true=>
      have hb:Cl id key=true:=by rw [Cl,hn,hkk];rfl
      rw [hkk] at K0
      have K:=AC K0
      have hid1:=Cx.1 hn
      have HP:Hid (∀ b d,DC b d ((⟨id,key,[]⟩:Upl),.slice none 0 0)):=AC fun b d=>⟨⟨by show id<_;omega,by unfold maxLen;show key.size≤_;omega,by simp⟩,by simp,by simp,.inr (OwnP.nil _ _)⟩
      have HH:=AC h
      have HO:=AC hok
      have HB:=AC hb
      obtain⟨A,c,rfl⟩:=ht.form
      clear CK ht hs h hok hn hkk hb N0 K0
      go_enter Tryz.func86,Tryz.ntmps86
      go_wp2_with fail
      refine(C.out).mono ?_
      rintro e w1 ⟨rfl,q1⟩
      go_wp2_with fail
      refine(N.out _).mono ?_
      rintro e w2 ⟨rfl,rfl⟩
      go_wp2_with fail
      refine(K.out _).mono ?_
      rintro e w3 ⟨rfl,rfl⟩
      go_wp2_with fail
      go_loopw [8] (fun I wr=>∃ i:Nat,i≤l.length∧I=.int .i64 i∧Q w wr∧Hid (∀ j (hj:j<i) (hl:j<l.length),l[j].id<id)) (fun I _=>l.length - (intOf I).toNat)
      case atStart=>exact⟨0,Nat.zero_le _,rfl,q1,AC (fun j h=>by omega)⟩
      case round=>
       obtain⟨i,hil,rfl,q,HK⟩:=hrel
       clear q1
       by_cases hlt:i<l.length
       ·obtain⟨a,c',hv,ha,A2,c2,-,hat⟩:=HT.out.pick i hlt
        injection hv with e1 e2 e3
        subst e1 e3
        obtain⟨d0,-⟩:=hat _ q
        have hilt:(i:Int)<(l.length:Int):=by omega
        by_cases hge:id≤l[i].id
        ·have HV:Hid (r=[]∧e=9):=AC (by
          have:=HH.out
          cases this with
          | arg h=>exact absurd ⟨HO.out,HB.out⟩ h
          | order _ _ h=>exact⟨rfl,rfl⟩
          | large _ _ h _=>have:=h _ (List.getElem_mem hlt);omega
          | yes _ _ h _=>have:=h _ (List.getElem_mem hlt);omega)
         obtain⟨x,hx⟩:∃ x,x=l[i].id:=⟨_,rfl⟩
         rw [← hx] at d0 hge
         have hge':(id:Int)≤(x:Int):=by omega
         clear hx hat e2 hge
         go_wp2
         go_ret2
         exact⟨_,by rw [HV.out.2];rfl,by rw [HV.out.1];exact Upls.nil _ _,q⟩
        ·have HK2:Hid (∀ j (hj:j<i+1) (hl:j<l.length),l[j].id<id):=AC (fun j hj hl=>by
          by_cases e:j=i
          ·subst e;omega
          ·exact HK.out j (by omega) hl)
         obtain⟨x,hx⟩:∃ x,x=l[i].id:=⟨_,rfl⟩
         rw [← hx] at d0 hge
         have hge':¬ (id:Int)≤(x:Int):=by omega
         clear hx hat e2 hge
         go_wp2
         go_roundw
         case rel=>exact⟨i+1,by omega,by go_num,q,HK2⟩
         case measure=>simp [intOf];omega
       ·have hilt:¬ (i:Int)<(l.length:Int):=by omega
        have HA:Hid (∀ x∈l,x.id<id):=AC (fun x hx=>by
         obtain⟨j,hj,rfl⟩:=List.getElem_of_mem hx
         exact HK.out j (by omega) hj)
        by_cases h10:l.length=10
        ·have h10':(10:Int)≤(l.length:Int):=by omega
         have HV:Hid (r=[]∧e=6):=AC (by
          have:=HH.out
          cases this with
          | arg h=>exact absurd ⟨HO.out,HB.out⟩ h
          | order _ _ h=>obtain⟨x,hx,hi⟩:=h;have:=HA.out x hx;omega
          | large _ _ h _=>exact⟨rfl,rfl⟩
          | yes _ _ _ h=>omega)
         clear h10 hil
         go_wp2
         go_ret2
         exact⟨_,by rw [HV.out.2];rfl,by rw [HV.out.1];exact Upls.nil _ _,q⟩
        ·have h10':¬ (10:Int)≤(l.length:Int):=by have:=HO.out.1;omega
         have HV:Hid (r=l ++ [⟨id,key,[]⟩]∧e=0):=AC (by
          have:=HH.out
          cases this with
          | arg h=>exact absurd ⟨HO.out,HB.out⟩ h
          | order _ _ h=>obtain⟨x,hx,hi⟩:=h;have:=HA.out x hx;omega
          | large _ _ _ h=>omega
          | yes=>exact⟨rfl,rfl⟩)
         have o0:=MV wr
         have t0:Upls (wr.alloc (.cells #[] 107)) wr.heap.size (.slice A l.length c) l:=(HT.out.on q).below ((Below.refl _ wr).alloc (Nat.le_refl _) _)
         clear h10 hil
         go_wp2_with (first | (at_builtin;refine CE _ rfl _ _ 23 Tryz.underlying23 rfl wr.heap.size _ [] l rfl rfl o0 t0 ?hb ?hl ?_;(case hb=>simp);(case hl=>(try simp);omega);intro v4 w4 o4 g4;have b4:wr.heap.size≤w4.heap.size:=(by have:=g4.size;simp at this;omega);have o5:=o4.on ((Q.refl w4).alloc (.cells #[.int .u64 (id:Nat),.string key,.slice none 0 0] 107)) b4) | (at_builtin;refine Am _ rfl _ _ 23 Tryz.underlying23 rfl wr.heap.size w4.heap.size _ ([]++l) (⟨id,key,[]⟩,.slice none 0 0) rfl rfl (An w4 (⟨id,key,[]⟩,.slice none 0 0) 107) o5 (HP.out _ _) ?hb ?hl ?_;(case hb=>simp;omega);(case hl=>(try simp);omega);intro v6 w6 o6 g6;have q6:Q wr w6:=Below.trans (Below.trans ((Below.refl _ wr).alloc (Nat.le_refl _) _) g4) (Below.trans ((Below.refl _ w4).alloc b4 _) g6)))
         go_ret2
         exact⟨_,by rw [HV.out.2];rfl,by rw [HV.out.1];exact o6.read q6.size,q.trans q6⟩
 ·have C:=AC (CK false (.inr ⟨rfl,hok⟩))
  have hno:¬ (Ab l∧Cl id key=true):=fun k=>hok k.1
  have HV:Hid (r=[]∧e=1):=AC (by
   cases h with
   | arg h=>exact⟨rfl,rfl⟩
   | order h1 h2 _=>exact absurd ⟨h1,h2⟩ hno
   | large h1 h2 _ _=>exact absurd ⟨h1,h2⟩ hno
   | yes h1 h2 _ _=>exact absurd ⟨h1,h2⟩ hno)
  clear CK ht hs h hok hno N0 K0
  go_enter Tryz.func86,Tryz.ntmps86
  go_wp2_with fail
  refine(C.out).mono ?_
  rintro e w1 ⟨rfl,q1⟩
  go_wp2
  go_ret2
  exact⟨_,by rw [HV.out.2];rfl,by rw [HV.out.1];exact Upls.nil _ _,q1⟩
end
section
open Go.ChangeShapes Go.WideShapes Go.ChangeAt Go.RowKit
theorem DH{a b c:World}{r:Option Nat}(h:a.grownBy b r)(k:b.grownBy c r):a.grownBy c r:=
 ⟨k.os.trans h.os,k.tape.trans h.tape,k.output.trans h.output,Nat.le_trans h.size k.size,fun i hi hr=>(k.block i (Nat.lt_of_lt_of_le hi h.size) hr).trans (h.block i hi hr)⟩
theorem CD(g:Nat):∀ (vs:List Value) (o:Nat) (w:World),w.grownBy (w.setCells g o vs) (some g)
 | [],o,w=>World.grownBy.refl w _
 | v :: r,o,w=>DH (Ad w g o v) (CD g r (o+1) _)
theorem GJ(W:World)(g o c:Nat)(hc:∀ j,j<3→(W.cell? ⟨g,o+j,none⟩).isSome=true)(hf:∀ j,j<3→W.frozen? ⟨g,o+j,none⟩=false)(ty:TypeId):
  (Builtin.clear_ #[23] ty #[.slice (some ⟨g,o,none⟩) 1 c]).run Tryz.prog W=.ok (.tuple #[]) (W.setCells g o [.int .u64 0,.string ⟨#[]⟩,.slice none 0 0]):=by
 have hst:=run_storeCells_cells (P:=Tryz.prog) g o [.int .u64 0,.string ⟨#[]⟩,.slice none 0 0] 0 W (by simpa using hc) (by simpa using hf) (by intro v hv;simp at hv;rcases hv with rfl | rfl | rfl <;> rfl)
 simp only [Nat.add_zero] at hst
 have hz:(Builtin.zeroCells (Value.agg #[.int .u64 0,.string ⟨#[]⟩,.slice none 0 0]).cells 1).toList=[.int .u64 0,.string ⟨#[]⟩,.slice none 0 0]:=by simp [Builtin.zeroCells,Value.cells];rfl
 simp [Builtin.clear_,run_underlying Tryz.underlying23,Tryz.zeroValue107,hz,hst]
theorem RowU.reread{base:Nat}{w w2:World}{g n cap:Nat}{P R:List (Upl×Value)}(r:RowU base w (.slice (some ⟨g,0,none⟩) n cap) P)(f:∀ p∈P,DC base w p)(gr:w.grownBy w2 (some g))(hb:base≤w.heap.size)
  (hR:∀ p∈R,p∈P) (hlen:R.length≤cap) (hcell:∀ k (hk:k<R.length) j u,j<3→(ucl R[k])[j]?=some u→w2.cell? ⟨g,k*3+j,none⟩=some u) (hg:g<w.heap.size) :
  Upls w2 w2.heap.size (.slice (some ⟨g,0,none⟩) R.length cap) (R.map (·.1)):=by
 have gr':w.grownBy w2 (Value.slice (some ⟨g,0,none⟩) n cap).ownBlock:=gr
 have f2:∀ p∈R,okU p.1∧Prts w2 w2.heap.size p.2 p.1.L:=fun p hp=>⟨(f p (hR p hp)).1,((f p (hR p hp)).2.grown r gr' hb).read (Nat.le_trans hb gr.size)⟩
 refine⟨some ⟨g,0,none⟩,cap,by rw [List.length_map],by rw [List.length_map];exact hlen,by simp,fun x hx=>?_,fun k hk=>⟨⟨g,0,none⟩,rfl,Nat.lt_of_lt_of_le hg gr.size,?_⟩⟩
 ·obtain⟨p,hp,rfl⟩:=List.mem_map.1 hx
  exact(f2 p hp).1
 ·rw [List.length_map] at hk
  rw [List.getElem_map]
  refine⟨?_,?_,R[k].2,?_,(f2 _ (List.getElem_mem hk)).2⟩
  ·rw [Bm];simpa using hcell k hk 0 _ (by omega) rfl
  ·rw [Bg _ _ _ (by omega)];exact hcell k hk 1 _ (by omega) rfl
  ·rw [Bg _ _ _ (by omega)];exact hcell k hk 2 _ (by omega) rfl
theorem Iz(l:List Upl)(v:Value)(i base:Nat)(w:World)(hi:i<l.length)(hl:l.length≤1000)(hb:base≤w.heap.size)(h:OwnU base w v l):
  Calls Tryz.prog 155 #[v,.int .i64 (i:Nat),.int .i64 ((i:Int)+1)] w fun e w'=>∃ v',e=.returned v'∧Upls w' w'.heap.size v' (l.take i++l.drop (i+1))∧Below base w w':=by
 obtain⟨P,hP,r,f⟩:=h
 have hPl:P.length=l.length:=by rw [← hP,List.length_map]
 have R0:=AC r
 have F0:=AC f
 rcases r.2 with⟨e,h0⟩ | ⟨g,cap,cur,e,hbg,hg,hnc,hcm,hcs,htake⟩
 ·omega
 ·subst e
  have hglt:=lt_of_block hg
  have hcell:∀ d:World,(∀ p:Addr,p.block=g→d.cell? p=w.cell? p)→∀ k (hk:k<P.length) j u,j<3→(ucl P[k])[j]?=some u→d.cell? ⟨g,k*3+j,none⟩=some u:=by
   intro d hd k hk j u hj hu
   rw [hd _ rfl]
   have:=World.ownsRow.cells r (g:=g) rfl (k*3+j) u (by rw [Bd P k hk hj];exact hu)
   unfold Addr.add at this
   split at this
   ·rename_i h0;rw [show k*3+j=0 by omega];exact this
   ·simpa using this
  obtain⟨news,hnews⟩:∃ news,news=(P.drop (i+1)).flatMap ucl:=⟨_,rfl⟩
  have hlen:news.length=(P.length - (i+1))*3:=by rw [hnews,GY,List.length_drop]
  have hget:∀ t,t<news.length→∃ u,news[t]?=some u∧w.cell? ⟨g,(i+1)*3+t,none⟩=some u:=by
   intro t ht
   rw [hlen] at ht
   have hk:t/3<(P.drop (i+1)).length:=by rw [List.length_drop];omega
   have ht2:t=t/3*3+t%3:=by omega
   have e1:=Bd (P.drop (i+1)) (t/3) hk (j:=t%3) (by omega)
   have hr:t%3<(ucl (P.drop (i+1))[t/3]).length:=by show t%3<3;omega
   rw [List.getElem?_eq_getElem hr] at e1
   refine⟨_,by rw [hnews,ht2];exact e1,?_⟩
   have:=hcell w (fun _ _=>rfl) (i+1+t/3) (by omega) (t%3) ((ucl (P.drop (i+1))[t/3])[t%3]) (by omega) (by
    rw [← List.getElem?_eq_getElem hr];simp [List.getElem_drop])
   rw [show(i+1)*3+t=(i+1+t/3)*3+t%3 by omega];exact this
  obtain⟨A,hA,hsrc⟩:∃ A:Addr,(if cap=i+1 then some (⟨g,0,none⟩:Addr) else some ⟨g,0+(i+1)*3,none⟩)=some A∧Hid (∀ t u,news[t]?=some u→w.drew.cell? (A.add t)=some u):=by
   by_cases h:cap=i+1
   ·refine⟨⟨g,0,none⟩,by simp [h],fun t u hu=>?_⟩
    have ht:=(List.getElem?_eq_some_iff.1 hu).1
    rw [hlen] at ht
    omega
   ·refine⟨⟨g,0+(i+1)*3,none⟩,by simp [h],fun t u hu=>?_⟩
    obtain⟨u',e1,e2⟩:=hget t (List.getElem?_eq_some_iff.1 hu).1
    rw [e1] at hu
    injection hu with hu
    subst hu
    rw [Addr.add_lit,Nat.zero_add];exact e2
  have s1:Hid (news.length=(l.length - (i+1))*3):=by rw [← hPl];exact hlen
  have s2:Hid (∀ u∈news,u.oneCell'=true):=by
   rw [hnews]
   exact E0 (fun p hp=>OwnU.shapes f p (List.mem_of_mem_drop hp))
  have frz:∀ (d:World) (j:Nat),d.heap[g]?=w.heap[g]?→d.frozen? ⟨g,j,none⟩=false:=fun d j e=>by simp [World.frozen?,e,hg]
  have s3:Hid (∀ t,t<news.length→(w.drew.cell? ⟨g,0+i*3+t,none⟩).isSome=true∧w.drew.frozen? ⟨g,0+i*3+t,none⟩=false):=by
   intro t ht
   rw [hlen] at ht
   refine⟨?_,frz _ _ rfl⟩
   have hr:(i*3+t)%3<(ucl (P[(i*3+t)/3]'(by omega))).length:=by show _<3;omega
   have:=hcell w (fun _ _=>rfl) ((i*3+t)/3) (by omega) ((i*3+t)%3) _ (by omega) (List.getElem?_eq_getElem hr)
   rw [show(i*3+t)/3*3+(i*3+t)%3=0+i*3+t by omega] at this
   show(w.cell? _).isSome=true
   rw [this];rfl
  obtain⟨W1,hW1⟩:∃ W1,W1=w.drew.setCells g (0+i*3) news:=⟨_,rfl⟩
  have gW1:w.grownBy W1 (some g):=by
   have a:w.grownBy w.drew (some g):=⟨rfl,rfl,rfl,Nat.le_refl _,fun _ _ _=>rfl⟩
   rw [hW1];exact DH a (CD g news _ _)
  have c1:∀ m,m<(l.length)*3→(W1.cell? ⟨g,m,none⟩).isSome=true:=by
   intro m hm
   have hr:m%3<(ucl (P[m/3]'(by omega))).length:=by show _<3;omega
   have hw:=hcell w (fun _ _=>rfl) (m/3) (by omega) (m%3) _ (by omega) (List.getElem?_eq_getElem hr)
   rw [show m/3*3+m%3=m by omega] at hw
   obtain⟨v',hv'⟩:∃ v',W1.cell? ⟨g,m,none⟩=some v':=by
    rw [hW1]
    by_cases hin:0+i*3≤m∧m<0+i*3+news.length
    ·have:=World.cell?_setCells_in g news (0+i*3) w.drew (fun j hj=>(s3 j hj).1) (m - (0+i*3)) (by omega)
     rw [show 0+i*3+(m - (0+i*3))=m by omega] at this
     exact⟨_,this⟩
    ·rw [World.cell?_setCells_out g news (0+i*3) w.drew ⟨g,m,none⟩ (fun _ _=>by show m<_∨_≤m;omega)]
     exact⟨_,hw⟩
   rw [hv'];rfl
  have fW1:∀ j,W1.frozen? ⟨g,j,none⟩=false:=fun j=>by rw [hW1,World.frozen?_setCells];exact frz _ _ rfl
  have hn1:i+(l.length - (i+1))=l.length - 1:=by omega
  have hcl:∀ ty c,(Builtin.clear_ #[23] ty #[.slice (some ⟨g,0+(l.length - 1)*3,none⟩) 1 c]).run Tryz.prog W1=.ok (.tuple #[]) (W1.setCells g (0+(l.length - 1)*3) [.int .u64 0,.string ⟨#[]⟩,.slice none 0 0]):=
   fun ty c=>GJ W1 g _ c (fun j hj=>c1 _ (by omega)) (fun j _=>fW1 _) ty
  have fin:Hid (Upls (W1.setCells g (0+(l.length - 1)*3) [.int .u64 0,.string ⟨#[]⟩,.slice none 0 0]) (W1.setCells g (0+(l.length - 1)*3) [.int .u64 0,.string ⟨#[]⟩,.slice none 0 0]).heap.size (.slice (some ⟨g,0,none⟩) (l.length - 1) cap) (l.take i++l.drop (i+1))∧Below base w (W1.setCells g (0+(l.length - 1)*3) [.int .u64 0,.string ⟨#[]⟩,.slice none 0 0])):=by
   have g2:w.grownBy (W1.setCells g (0+(l.length - 1)*3) [.int .u64 0,.string ⟨#[]⟩,.slice none 0 0]) (some g):=DH gW1 (CD g _ _ _)
   refine⟨?_,(Below.refl base w).grown g2 hb (fun k hk=>by injection hk with hk;omega)⟩
   have hRl:(P.take i++P.drop (i+1)).length=l.length - 1:=by rw [List.length_append,List.length_take,List.length_drop];omega
   have:=RowU.reread (R:=P.take i++P.drop (i+1)) r f g2 hb (fun p hp=>by
     rcases List.mem_append.1 hp with hp | hp
     ·exact List.mem_of_mem_take hp
     ·exact List.mem_of_mem_drop hp) (by omega) (fun k hk j u hj hu=>by
     rw [World.cell?_setCells_out g _ _ W1 ⟨g,k*3+j,none⟩ (fun _ _=>by left;show k*3+j<_;omega),hW1]
     by_cases hki:k<i
     ·rw [List.getElem_append_left (by rw [List.length_take];omega),List.getElem_take] at hu
      rw [World.cell?_setCells_out g news (0+i*3) w.drew ⟨g,k*3+j,none⟩ (fun _ _=>by left;show k*3+j<_;omega)]
      exact hcell w (fun _ _=>rfl) k (by omega) j u hj hu
     ·rw [List.getElem_append_right (by rw [List.length_take];omega)] at hu
      have hm:(k - i)*3+j<news.length:=by rw [hlen];omega
      have:=World.cell?_setCells_in g news (0+i*3) w.drew (fun j hj=>(s3 j hj).1) ((k - i)*3+j) hm
      rw [show 0+i*3+((k - i)*3+j)=k*3+j by omega] at this
      rw [this]
      have e1:=Bd (P.drop (i+1)) (k - i) (by rw [List.length_drop];omega) hj
      rw [← hnews,List.getElem?_eq_getElem hm] at e1
      rw [e1,← hu]
      congr 2
      simp only [List.length_take,Nat.min_eq_left (show i≤P.length by omega)]) hglt
   rw [hRl,List.map_append,List.map_take,List.map_drop,hP] at this
   exact this
  have hW:Hid (W1=w.drew.setCells g (0+i*3) news):=hW1
  obtain⟨i0,hi0,hz0,hz1,hz2⟩:=info_parts EQ
  rw [hPl]
  obtain⟨n,hn⟩:∃ n,n=l.length:=⟨_,rfl⟩
  obtain⟨j,hj⟩:∃ j,j=i+1:=⟨_,rfl⟩
  rw [← hn] at s1 hcl hi
  have FIN:=fin
  rw [← hn] at FIN ⊢
  rw [← hj] at hA s1 FIN
  rw [Nat.zero_add] at hA FIN
  have hcl2:∀ ty c,(Builtin.clear_ #[23] ty #[.slice (some ⟨g,(i+(n - j))*3,none⟩) (n - (i+(n - j))) c]).run Tryz.prog W1=.ok (.tuple #[]) (W1.setCells g (0+(n - 1)*3) [.int .u64 0,.string ⟨#[]⟩,.slice none 0 0]):=fun ty c=>by
   rw [show i+(n - j)=n - 1 by omega,show n - (n - 1)=1 by omega]
   have:=hcl ty c
   rw [Nat.zero_add] at this ⊢
   exact this
  clear hcl
  have hjn:j≤n:=by omega
  have hij:i<j:=by omega
  have hic:i≤cap:=by omega
  have hjc:j≤cap:=by omega
  have hnc2:n≤cap:=by omega
  have hcap:cap≤9223372036854775807:=by unfold maxLen at hcm;omega
  have hji:((i:Int)+1)=(j:Int):=by omega
  rw [hji]
  have HNJ:Hid (i+(n - j)=n - 1):=AC (by omega)
  have hlt2:i+(n - j)<n:=by omega
  have hle2:i+(n - j)≤n:=by omega
  have HJ:=AC hj
  have hroom:i+(n - j)≤cap:=by omega
  have hln:n≤1000:=by omega
  clear fin fW1 c1 gW1 hW1 frz hget hnews hlen hcell htake hcs hg R0 F0 r f hP hPl hn1 hji hj hn hnc hcm hl hb hbg
  go_enter Tryz.func155,Tryz.ntmps155
  go_wp2_with fail
  go_region_law (refine step_append_room rfl (.tmp 22) (.tmp 25) 23 rfl 107 i0 3 Tryz.underlying23 hi0 hz1 g 0 i cap (by simp [Act.eval,Act.put]) A (n - j) (cap - j) news (by simp [Act.eval,Act.put]) s1.out hsrc.out s2.out (by omega) s3.out ?_;rw [← hW.out])
  go_wp2
  go_ret
  refine⟨_,rfl,?_,FIN.out.2⟩
  rw [← HJ.out,HNJ.out]
  exact FIN.out.1
def rmU(l:List Upl)(id:Nat):List Upl:=l.filter fun x=>decide (x.id≠id)
theorem S0{l:List Upl}{i id:Nat}(h:Ab l)(hi:i<l.length)(k:l[i].id=id):l.take i++l.drop (i+1)=rmU l id:=by
 have e:l=l.take i++(l[i] :: l.drop (i+1)):=by rw [List.getElem_cons_drop,List.take_append_drop]
 have h1:∀ x∈l.take i,x.id≠id:=fun x hx=>by
  obtain⟨j,hj,rfl⟩:=List.getElem_of_mem hx
  rw [List.length_take] at hj
  rw [List.getElem_take]
  have:=Cw h j i (by omega) hi
  omega
 have h2:∀ x∈l.drop (i+1),x.id≠id:=fun x hx=>by
  obtain⟨j,hj,rfl⟩:=List.getElem_of_mem hx
  rw [List.length_drop] at hj
  rw [List.getElem_drop]
  have:=Cw h i (i+1+j) (by omega) (by omega)
  omega
 conv=>rhs;rw [e]
 rw [rmU,List.filter_append,List.filter_cons_of_neg (by simp [k]),List.filter_eq_self.2 (fun x hx=>by simpa using h1 x hx),List.filter_eq_self.2 (fun x hx=>by simpa using h2 x hx)]
inductive AbortC(l:List Upl)(id:Nat):List Upl→Nat→Prop
 | arg:¬ Ab l→AbortC l id [] 1
 | none:Ab l→(∀ j (hl:j<l.length),l[j].id≠id)→AbortC l id [] 4
 | yes (i:Nat) (h:i<l.length):Ab l→l[i].id=id→(∀ j (hj:j<i) (hl:j<l.length),l[j].id≠id)→AbortC l id (rmU l id) 0
theorem IB(l:List Upl)(id:Nat):∃ r e,AbortC l id r e:=by
 by_cases h:Ab l
 ·rcases EC l id with⟨-,k⟩ | ⟨i,hi,-,k,m⟩
  ·exact⟨_,_,.none h k⟩
  ·exact⟨_,_,.yes i hi h k m⟩
 ·exact⟨_,_,.arg h⟩
theorem F7(l:List Upl)(v:Value)(id:Nat)(w:World)(r:List Upl)(e:Nat)(h:AbortC l id r e)(hs:smL l)(ht:Upls w w.heap.size v l):
  Calls Tryz.prog 116 #[v,.int .u64 (id:Nat)] w fun x w'=>∃ u,x=.returned (.tuple #[u,.int .i64 (e:Nat)])∧Upls w' w'.heap.size u r∧Q w w':=by
 have HT:=AC ht
 have hl:=hs.1
 have CK:∀ R,Chk (Ab l) R→Calls Tryz.prog 47 #[v] w fun e w'=>e=.returned (.int .i64 (Nj R))∧Q w w':=fun R hR=>CJ l v w R hR hs ht
 have PL:Hid (∀ d,Q w d→Calls Tryz.prog 144 #[v,.int .u64 (id:Nat)] d fun e w'=>e=.returned (.int .i64 (Kw l id))∧Q d w'):=AC fun d q=>Dk l v id d hl (ht.on q)
 have AA:Hid (∀ d,Q w d→Calls Tryz.prog 143 #[v] d fun e w'=>∃ v',e=.returned v'∧OwnU d.heap.size w' v' l∧Q d w'):=AC fun d q=>Cq l v d hs (ht.on q)
 cases h with
 | arg hno=>
   have C:=AC (CK false (.inr ⟨rfl,hno⟩))
   clear CK ht hs hno PL AA
   go_enter Tryz.func116,Tryz.ntmps116
   go_wp2_with fail
   refine(C.out).mono ?_
   rintro e w1 ⟨rfl,q1⟩
   go_wp2
   go_ret2
   exact⟨_,rfl,Upls.nil _ _,q1⟩
 | none hok hno=>
   have C:=AC (CK true (.inl ⟨rfl,hok⟩))
   have e1:=DX hno
   rw [e1] at PL
   clear CK ht hs hok hno e1 AA
   go_enter Tryz.func116,Tryz.ntmps116
   go_wp2_with fail
   refine(C.out).mono ?_
   rintro e w1 ⟨rfl,q1⟩
   go_wp2_with fail
   refine(PL.out _ q1).mono ?_
   rintro e w2 ⟨rfl,q2⟩
   go_wp2
   go_ret2
   exact⟨_,rfl,Upls.nil _ _,q1.trans q2⟩
 | yes i hlt hok hid hlo=>
   have C:=AC (CK true (.inl ⟨rfl,hok⟩))
   have e1:=DY hlt hid hlo
   rw [e1] at PL
   have HR:=AC (S0 hok hlt hid)
   have DL:Hid (∀ base d v',base≤d.heap.size→OwnU base d v' l→Calls Tryz.prog 155 #[v',.int .i64 (i:Nat),.int .i64 ((i:Int)+1)] d fun e w'=>∃ v',e=.returned v'∧Upls w' w'.heap.size v' (l.take i++l.drop (i+1))∧Below base d w'):=AC fun base d v' hb ho=>Iz l v' i base d hlt hl hb ho
   have hi0:¬ (i:Int)<0:=by omega
   have hil:i≤1000:=by omega
   clear CK ht hs hok hid hlo e1
   go_enter Tryz.func116,Tryz.ntmps116
   go_wp2_with fail
   refine(C.out).mono ?_
   rintro e w1 ⟨rfl,q1⟩
   go_wp2_with fail
   refine(PL.out _ q1).mono ?_
   rintro e w2 ⟨rfl,q2⟩
   go_wp2_with fail
   refine(AA.out _ (q1.trans q2)).mono ?_
   rintro e w3 ⟨v3,rfl,o3,q3⟩
   have D3:=AC (DL.out _ _ _ q3.size o3)
   clear o3
   go_wp2_with fail
   refine(D3.out).mono ?_
   rintro e w4 ⟨v4,rfl,o4,q4⟩
   go_wp2
   go_ret2
   exact⟨_,rfl,by rw [← HR.out];exact o4,(q1.trans q2).trans (Below.trans q3 q4)⟩
theorem Sz{l:List Upl}{i id:Nat}(h:i<l.length)(k:l[i].id=id):rmU (l.take (i+1)) id=rmU (l.take i) id:=by
 rw [List.take_succ_eq_append_getElem h,rmU,List.filter_append,← rmU,List.filter_cons_of_neg (by simp [k])];simp
theorem RJ{l:List Upl}{i id:Nat}(h:i<l.length)(k:l[i].id≠id):rmU (l.take (i+1)) id=rmU (l.take i) id ++ [l[i]]:=by
 rw [List.take_succ_eq_append_getElem h,rmU,List.filter_append,← rmU,List.filter_cons_of_pos (by simp [k])];rfl
theorem Di(l:List Upl)(id:Nat):(rmU l id).length≤l.length:=List.length_filter_le ..
end
section
open Go.ChangeShapes Go.WideShapes Go.ChangeAt Go.RowKit
theorem La{l:List Upl}{id:Nat}{r:List Upl}{e:Nat}(h:AbortC l id r e):∃ x,FindC l id x e:=by
 cases h with
 | arg h=>exact⟨_,.arg h⟩
 | none h k=>exact⟨_,.none h k⟩
 | yes i hi h k m=>exact⟨_,.yes i hi h k m⟩
theorem Nx{l:List Upl}{id:Nat}{r:List Upl}{e:Nat}(h:AbortC l id r e)(k:e≠0):r=[]:=by
 cases h with
 | arg h=>rfl
 | none h _=>rfl
 | yes i hi h _ _=>exact absurd rfl k
theorem Qe{l:List Upl}{id:Nat}{r:List Upl}{e:Nat}(h:AbortC l id r e)(k:e=0):r=rmU l id:=by
 cases h with
 | arg h=>cases k
 | none h _=>cases k
 | yes i hi h _ _=>rfl
theorem Upls.one{w d:World}{v:Value}{l:List Upl}(h:Upls w w.heap.size v l)(q:Q w d)(i:Nat)(hi:i<l.length){A2:Option Addr}{c2:Nat}(hp:Prts w w.heap.size (.slice A2 l[i].L.length c2) l[i].L):DC w.heap.size d (l[i],.slice A2 l[i].L.length c2):=
 ⟨h.okAll _ (List.getElem_mem hi),hp.okAll,(h.okAll _ (List.getElem_mem hi)).2.2,.inl (hp.below q)⟩
theorem Ic(l:List Upl)(v:Value)(id:Nat)(w:World)(r:List Upl)(e:Nat)(h:AbortC l id r e)(hs:smL l)(ht:Upls w w.heap.size v l):
  Calls Tryz.prog 88 #[v,.int .u64 (id:Nat)] w fun x w'=>∃ u,x=.returned (.tuple #[u,.int .i64 (e:Nat)])∧Upls w' w'.heap.size u r∧Q w w':=by
 have HT:=AC ht
 have hl:=hs.1
 obtain⟨x,hx⟩:=La h
 have F:=AC (Cs l v id w x e hx hs ht)
 simp only [upl] at F
 by_cases he:e=0
 ·have HV:=AC (Qe h he)
  subst he
  obtain⟨A,c,rfl⟩:=ht.form
  clear ht hs h hx
  go_enter Tryz.func88,Tryz.ntmps88
  go_wp2_with fail
  refine(F.out).mono ?_
  rintro e w1 ⟨u,rfl,hu,q1⟩
  obtain⟨A1,c1,rfl⟩:=hu.form
  have q2:=q1.alloc (.cells #[.int .u64 (x.id:Nat),.string x.key,.slice A1 x.L.length c1] 107)
  clear hu q1
  go_wp2_with fail
  go_loopw [8,9] (fun O I wr=>∃ i:Nat,i≤l.length∧I=.int .i64 i∧OwnU w.heap.size wr O (rmU (l.take i) id)∧Q w wr) (fun _ I _=>l.length - (intOf I).toNat)
  case atStart=>exact⟨0,Nat.zero_le _,rfl,OwnU.nil _ _,q2⟩
  case round=>
   obtain⟨i,hil,rfl,hown,q⟩:=hrel
   clear q2
   by_cases hlt:i<l.length
   ·obtain⟨a,c',hv,ha,A2,c2,hps,hat⟩:=HT.out.pick i hlt
    injection hv with e1 e2 e3
    subst e1 e3
    obtain⟨d0,d1,d2⟩:=hat _ q
    have hilt:(i:Int)<(l.length:Int):=by omega
    by_cases hid:l[i].id=id
    ·have HW:=AC (Sz hlt hid)
     obtain⟨y,hy⟩:∃ y,y=l[i]:=⟨_,rfl⟩
     rw [← hy] at d0 d1 d2 hid
     have hne:((y.id:Int) != (id:Int))=false:=by simp [hid]
     clear hy hat hps hid e2
     go_wp2_with fail
     go_roundw
     case rel=>exact⟨i+1,by omega,by go_num,by rw [HW.out];exact hown,q⟩
     case measure=>simp [intOf];omega
    ·have HW:=AC (RJ hlt hid)
     have hlen:(rmU (l.take i) id).length≤1000:=by have:=Di (l.take i) id;rw [List.length_take] at this;omega
     have q3:=(Q.refl wr).alloc (.cells #[.int .u64 (l[i].id:Nat),.string l[i].key,.slice A2 l[i].L.length c2] 107)
     have o1:=AC (HT.out.one (q.trans q3) i hlt hps)
     have hs:=q.size
     have h0:=hown.on q3 hs
     obtain⟨y,hy⟩:∃ y,y=l[i]:=⟨_,rfl⟩
     rw [← hy] at d0 d1 d2 hid HW o1 h0 q3
     have hne:((y.id:Int) != (id:Int))=true:=by
      have:¬ ((y.id:Int)=(id:Int)):=by omega
      simpa using this
     clear hy hat hps hid e2
     go_wp2_with (at_builtin;refine Am _ rfl _ _ 23 Tryz.underlying23 rfl w.heap.size wr.heap.size _ _ (y,.slice A2 y.L.length c2) rfl rfl (An wr (y,.slice A2 y.L.length c2) 107) h0 o1.out ?hb ?hl ?_;(case hb=>simp;omega);(case hl=>omega);intro v5 w5 o5 g5;have q5:Q w w5:=Below.trans (Q.trans q q3) g5)
     go_roundw
     case rel=>exact⟨i+1,by omega,by go_num,by rw [HW.out];exact o5,q5⟩
     case measure=>simp [intOf];omega
   ·obtain rfl:i=l.length:=by omega
    rw [List.take_length] at hown
    go_wp2
    go_ret2
    exact⟨_,rfl,by rw [HV.out];exact hown.read q.size,q⟩
 ·have HV:=AC (Nx h he)
  have hne:((e:Int) != 0)=true:=by
   have:¬ (e:Int)=0:=by omega
   simpa using this
  obtain⟨A,c,rfl⟩:=ht.form
  clear ht hs h hx he
  go_enter Tryz.func88,Tryz.ntmps88
  go_wp2_with fail
  refine(F.out).mono ?_
  rintro e w1 ⟨u,rfl,hu,q1⟩
  obtain⟨A1,c1,rfl⟩:=hu.form
  have q2:=q1.alloc (.cells #[.int .u64 (x.id:Nat),.string x.key,.slice A1 x.L.length c1] 107)
  go_wp2
  go_ret2
  exact⟨_,rfl,by rw [HV.out];exact Upls.nil _ _,q2⟩
end
section
open Go.ChangeShapes Go.WideShapes Go.ChangeAt Go.RowKit
theorem Jz(a:Addr)(m n:Nat):(a.add m).add n=a.add (m+n):=by
 unfold Addr.add
 by_cases h:m=0
 ·subst h;simp
 ·by_cases h2:n=0
  ·subst h2;simp
  ·rw [if_neg h,if_neg h2,if_neg (by omega)];simp [Nat.add_assoc]
theorem Prts.cutTake{w:World}{B:Nat}{A:Option Addr}{n c:Nat}{l:List Prt}(h:Prts w B (.slice A n c) l){i:Nat}(hi:i≤l.length):Prts w B (.slice A i c) (l.take i):=by
 obtain⟨A,c',e,e0,ez,eo,f⟩:=h
 injection e with e1 e2 e3
 subst e1 e2 e3
 have hlen:(l.take i).length=i:=by rw [List.length_take];omega
 refine⟨_,_,by rw [hlen],by omega,ez,fun x hx=>eo x (List.mem_of_mem_take hx),fun k hk=>?_⟩
 obtain⟨a',e1,e2,e3⟩:=f k (by omega)
 exact⟨a',e1,e2,by rw [List.getElem_take];exact e3⟩
theorem Prts.cutDrop{w:World}{B:Nat}{a:Addr}{n c:Nat}{l:List Prt}(h:Prts w B (.slice (some a) n c) l){i:Nat}(hi:i≤l.length):Prts w B (.slice (some (a.add (i*2))) (l.length - i) (c - i)) (l.drop i):=by
 obtain⟨A,c',e,e0,ez,eo,f⟩:=h
 injection e with e1 e2 e3
 subst e1 e2 e3
 have hlen:(l.drop i).length=l.length - i:=by rw [List.length_drop]
 refine⟨_,_,by rw [hlen],by omega,(by simp),fun x hx=>eo x (List.mem_of_mem_drop hx),fun k hk=>?_⟩
 rw [hlen] at hk
 obtain⟨a',e1,e2,e3⟩:=f (i+k) (by omega)
 injection e1 with e1
 subst e1
 refine⟨_,rfl,by rw [AG];exact e2,?_⟩
 rw [Jz,List.getElem_drop,← Nat.add_mul];exact e3
theorem Prts.cutEnd{w:World}{B:Nat}{A:Option Addr}{l:List Prt}(hl:l=[]):Prts w B (.slice A 0 0) l:=by
 subst hl
 exact⟨_,_,rfl,Nat.le_refl _,fun _=>rfl,by simp,fun k h=>absurd h (by simp)⟩
theorem M4(n:Nat)(w:World)(hn:n≤4000):
  Calls Tryz.prog 180 #[.slice none 0 0,.int .i64 (n:Nat)] w fun e w'=>∃ v',e=.returned v'∧OwnP w.heap.size w' v' []∧Q w w':=by
 obtain⟨i0,hi,hz0,hz1,hz2⟩:=info_parts DU
 by_cases h0:n=0
 ·subst h0
  go_enter Tryz.func180,Tryz.ntmps180
  go_wp2
  go_ret
  exact⟨_,rfl,OwnP.nil _ _,Q.refl _⟩
 ·have h1:¬ (n:Int)<0:=by omega
  have h3:wrap64 ((n:Int) - 0)=(n:Int):=by unfold wrap64;omega
  have h4:(0:Int)<(n:Int):=by omega
  have hrz:∀ ty,(Builtin.append_ #[189,3] ty #[.slice none 0 0,.int .i64 (n:Int)]).run Tryz.prog w=_:=fun ty=>
   Lib.run_append_nil_zeros w 189 3 ty 64 i0 (.agg #[.int .i64 0,.string ⟨#[]⟩]) .i64 .i64 Tryz.underlying189 Tryz.underlying3 hi hz0 n (by omega) (by omega) (by omega) (by rw [hz2];omega)
  have hG:=grownCap_le_maxLen w n 0 64 (by unfold maxLen;omega)
  have hGn:=grownCap_ge w n 0 64
  obtain⟨G,hGe⟩:∃ G,G=grownCap w n 0 64:=⟨_,rfl⟩
  rw [← hGe] at hrz hG hGn
  clear hGe
  have hG2:=hG
  unfold maxLen at hG2
  have own:∀ cur:Array Value,cur.size=G*2→OwnP w.heap.size (w.drew.alloc (.cells cur 64)) (.slice (some ⟨w.heap.size,0,none⟩) 0 G) []:=fun cur hc=>World.ownsRow_made w.drew cur G (Nat.le_refl _) hG hc
  have HO:=AC own
  clear own hi hz0 hz1 hz2
  go_enter Tryz.func180,Tryz.ntmps180
  go_wp2_with (at_builtin;refine Lib.wpList_append_run _ rfl _ _ _ _ rfl _ _ rfl rfl _ _ (hrz _) ?_)
  go_ret
  refine⟨_,rfl,HO.out _ ?_,((Q.refl w).drew).alloc _⟩
  simp [Builtin.zeroCells,Value.cells];omega
def cat3(l m p:List Prt)(k:Nat):List Prt:=if k=0 then[] else if k=1 then l else if k=2 then l++m else l++m++p
theorem Be(g:Nat)(v1 v2 v3:Value)(l m p:List Prt)(w:World)(h1:w.cell? ⟨g,0,none⟩=some v1)(h2:w.cell? ⟨g,1,none⟩=some v2)(h3:w.cell? ⟨g,2,none⟩=some v3)(hg:g<w.heap.size)
  (t1:Prts w w.heap.size v1 l) (t2:Prts w w.heap.size v2 m) (t3:Prts w w.heap.size v3 p) (hl:l.length≤1000) (hm:m.length≤1000) (hp:p.length≤1000) :
  Calls Tryz.prog 164 #[.slice (some ⟨g,0,none⟩) 3 3] w fun e w'=>∃ v',e=.returned v'∧OwnP w.heap.size w' v' (l++m++p)∧Q w w':=by
 have T1:=AC t1
 have T2:=AC t2
 have T3:=AC t3
 obtain⟨A1,c1,rfl⟩:=t1.form
 obtain⟨A2,c2,rfl⟩:=t2.form
 obtain⟨A3,c3,rfl⟩:=t3.form
 clear t1 t2 t3
 obtain⟨ln,hln⟩:∃ n,l.length=n:=⟨_,rfl⟩
 obtain⟨mn,hmn⟩:∃ n,m.length=n:=⟨_,rfl⟩
 obtain⟨pn,hpn⟩:∃ n,p.length=n:=⟨_,rfl⟩
 have HL:=AC hln
 have HM:=AC hmn
 have HP:=AC hpn
 rw [hln] at h1 T1 hl
 rw [hmn] at h2 T2 hm
 rw [hpn] at h3 T3 hp
 clear hln hmn hpn
 have G:Hid (∀ b,Calls Tryz.prog 180 #[.slice none 0 0,.int .i64 ((ln:Int)+(mn:Int)+(pn:Int))] b fun e w'=>∃ v',e=.returned v'∧OwnP b.heap.size w' v' []∧Q b w'):=AC (fun b=>by
  have:=M4 (ln+mn+pn) b (by omega)
  rw [Int.natCast_add,Int.natCast_add] at this
  exact this)
 go_enter Tryz.func164,Tryz.ntmps164
 go_wp2_with fail
 go_loopw [3,5,11] (fun S _ I wr=>∃ k n:Nat,k≤3∧S=.int .i64 n∧I=.int .i64 k∧n=(if k=0 then 0 else if k=1 then ln else if k=2 then ln+mn else ln+mn+pn)∧w=wr) (fun _ _ I _=>3 - (intOf I).toNat)
 case atStart=>exact⟨0,0,by omega,rfl,rfl,rfl,rfl⟩
 case round=>
  obtain⟨k,n,hk,rfl,rfl,hn,rfl⟩:=hrel
  rcases(show k=0∨k=1∨k=2∨k=3 by omega) with rfl | rfl | rfl | rfl
  ·simp only [if_true] at hn
   subst hn
   go_wp2
   go_roundw
   case rel=>exact⟨1,ln,by omega,by first | rfl | simp,rfl,rfl,by first | trivial | rfl⟩
   case measure=>simp [intOf]
  ·have hn2:n=ln:=by simpa using hn
   subst hn2
   clear hn
   have hw:wrap64 ((n:Int)+(mn:Int))=(n:Int)+(mn:Int):=by unfold wrap64;omega
   have hp:¬ ((n:Int)+(mn:Int))<0:=by omega
   go_wp2
   go_roundw
   case rel=>exact⟨2,n+mn,by omega,by go_num,rfl,rfl,by first | trivial | rfl⟩
   case measure=>simp [intOf]
  ·have hn2:n=ln+mn:=by simpa using hn
   clear hn
   have hw:wrap64 ((n:Int)+(pn:Int))=(n:Int)+(pn:Int):=by unfold wrap64;omega
   have hp:¬ ((n:Int)+(pn:Int))<0:=by omega
   have HN:=AC hn2
   clear hn2
   go_wp2
   go_roundw
   case rel=>exact⟨3,n+pn,by omega,by go_num,rfl,by rw [HN.out];rfl,by first | trivial | rfl⟩
   case measure=>simp [intOf]
  ·have hn2:n=ln+mn+pn:=by simpa using hn
   subst hn2
   clear hn
   rw [Int.natCast_add,Int.natCast_add]
   go_wp2_with fail
   refine(G.out _).mono ?_
   rintro e w1 ⟨v',rfl,ho,q1⟩
   go_wp2_with fail
   go_loopw [6,8,27] (fun O _ I wr=>∃ k:Nat,k≤3∧I=.int .i64 k∧OwnP w.heap.size wr O (cat3 l m p k)∧Q w wr) (fun _ _ I _=>3 - (intOf I).toNat)
   case atStart=>exact⟨0,by omega,rfl,ho,q1⟩
   case round=>
    obtain⟨k,hk,rfl,ho,q⟩:=hrel
    clear q1
    have d1:wr.cell? ⟨g,0,none⟩=_:=(q.cell (p:=⟨g,0,none⟩) hg).trans h1
    have d2:wr.cell? ⟨g,1,none⟩=_:=(q.cell (p:=⟨g,1,none⟩) hg).trans h2
    have d3:wr.cell? ⟨g,2,none⟩=_:=(q.cell (p:=⟨g,2,none⟩) hg).trans h3
    have hs:=q.size
    have hll:=HL.out
    have hmm:=HM.out
    have hpp:=HP.out
    rcases(show k=0∨k=1∨k=2∨k=3 by omega) with rfl | rfl | rfl | rfl
    ·have ho:OwnP w.heap.size wr u6 []:=ho
     have tb:=T1.out.below q
     go_wp2_with (at_builtin;refine Ar _ rfl _ _ 189 Tryz.underlying189 rfl w.heap.size _ _ [] l rfl rfl ho tb hs ?ha ?_;(case ha=>(try simp);omega);intro v2 w2 o2 g2;have b2:=ho.grown q hs g2;clear g2)
     go_roundw
     case rel=>exact⟨1,by omega,rfl,o2,b2⟩
     case measure=>simp [intOf]
    ·have ho:OwnP w.heap.size wr u6 l:=ho
     have tb:=T2.out.below q
     go_wp2_with (at_builtin;refine Ar _ rfl _ _ 189 Tryz.underlying189 rfl w.heap.size _ _ l m rfl rfl ho tb hs ?ha ?_;(case ha=>(try simp);omega);intro v2 w2 o2 g2;have b2:=ho.grown q hs g2;clear g2)
     go_roundw
     case rel=>exact⟨2,by omega,rfl,o2,b2⟩
     case measure=>simp [intOf]
    ·have ho:OwnP w.heap.size wr u6 (l++m):=ho
     have tb:=T3.out.below q
     go_wp2_with (at_builtin;refine Ar _ rfl _ _ 189 Tryz.underlying189 rfl w.heap.size _ _ (l++m) p rfl rfl ho tb hs ?ha ?_;(case ha=>(try simp);omega);intro v2 w2 o2 g2;have b2:=ho.grown q hs g2;clear g2)
     go_roundw
     case rel=>exact⟨3,by omega,rfl,o2,b2⟩
     case measure=>simp [intOf]
    ·have ho:OwnP w.heap.size wr u6 (l++m++p):=ho
     go_wp2
     go_ret
     exact⟨_,rfl,ho,q⟩
end
end Go.Proofs.YtjjlbbfhmpbneaaGreat
