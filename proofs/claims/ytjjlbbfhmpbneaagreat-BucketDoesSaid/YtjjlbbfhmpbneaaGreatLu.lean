/-
  Contract of the program's apart: a bucket with lists of its own. Contract of the program's change of a bucket, whatever is done: with an error it is put back.
-/
import Derived.Test.YtjjlbbfhmpbneaaGreatLs
import Derived.Test.YtjjlbbfhmpbneaaGreatLk
import Derived.Test.YtjjlbbfhmpbneaaGreatLm
import Derived.Defers
import Derived.Laws.ResultCell
namespace Go.Proofs.YtjjlbbfhmpbneaaGreat
open Lib renaming hid → AC
set_option maxHeartbeats 16000000
set_option maxRecDepth 100000
set_option linter.unusedVariables false
set_option linter.unusedSimpArgs false
section
open Go.ChangeShapes Go.WideShapes Go.ChangeAt Go.RowKit Go.Shelf
section
variable {w w':World} {p B:Nat}
theorem Vers.kpB{v:Value}{l:List Ver}(h:Vers w B v l)(hB:B≤w.heap.size)(c:Calm w p)(g:Kp p w w'):Vers w' B v l:=by
 obtain⟨A',c',e,e0,ez,eo,f⟩:=h
 refine⟨A',c',e,e0,ez,eo,fun i hi=>?_⟩
 obtain⟨a,e1,e2,e3⟩:=f i hi
 refine⟨a,e1,e2,?_⟩
 obtain⟨h0,h1,h2,h3⟩:=e3
 have hne:(a.add (i*4)).block≠p:=fun q=>by
  rw [q] at h1 h2
  have:=c.no (o:=(a.add (i*4)).off+1) h1 h2
  simp [OB] at this
 have hh:=g.block (a.add (i*4)).block (by rw [AG];omega) (fun e=>hne (by injection e))
 exact⟨(World.cell?_of_block hh).trans h0,(World.cell?_of_block (a:=⟨(a.add (i*4)).block,_,none⟩) hh).trans h1,(World.cell?_of_block (a:=⟨(a.add (i*4)).block,_,none⟩) hh).trans h2,(World.cell?_of_block (a:=⟨(a.add (i*4)).block,_,none⟩) hh).trans h3⟩
theorem Ents.kpB{v:Value}{l:List Ent}(h:Ents w B v l)(hB:B≤w.heap.size)(c:Calm w p)(g:Kp p w w'):Ents w' B v l:=by
 obtain⟨A',c',e,e0,ez,eo,f⟩:=h
 refine⟨A',c',e,e0,ez,eo,fun i hi=>?_⟩
 obtain⟨a,e1,e2,h1,u,h2,h3⟩:=f i hi
 obtain⟨A3,c3,hu⟩:=h3.form
 have hne:(a.add (i*2)).block≠p:=fun q=>by
  have k1:=h1;have k2:=h2
  rw [q,hu] at k2
  generalize a.add (i*2)=r at q k1 k2
  obtain⟨b,o,x⟩:=r
  simp only at q k2
  subst q
  match x with
  | none=>have:=c.no k1 k2;simp [OB] at this
  | some x=>
    obtain⟨t,cs,hb,hc⟩:=c
    simp [World.cell?,show w.heap[b]?=_ from hb] at k1
 have hh:=g.block (a.add (i*2)).block (by rw [AG];omega) (fun e=>hne (by injection e))
 exact⟨a,e1,e2,(World.cell?_of_block hh).trans h1,u,(World.cell?_of_block (a:=⟨(a.add (i*2)).block,_,none⟩) hh).trans h2,h3.kpB hB c g⟩
theorem Prts.kpB{v:Value}{l:List Prt}(h:Prts w B v l)(hB:B≤w.heap.size)(c:Calm w p)(g:Kp p w w'):Prts w' B v l:=by
 obtain⟨A',c',e,e0,ez,eo,f⟩:=h
 refine⟨A',c',e,e0,ez,eo,fun i hi=>?_⟩
 obtain⟨a,e1,e2,e3⟩:=f i hi
 refine⟨a,e1,e2,?_⟩
 have hne:(a.add (i*2)).block≠p:=fun q=>by
  obtain⟨k1,k2⟩:=e3
  generalize a.add (i*2)=r at q k1 k2
  obtain⟨b,o,x⟩:=r
  simp only at q k2
  subst q
  match x with
  | none=>have:=c.no k1 k2;simp [OB] at this
  | some x=>
    obtain⟨t,cs,hb,hc⟩:=c
    simp [World.cell?,show w.heap[b]?=_ from hb] at k1
 have hh:=g.block (a.add (i*2)).block (by rw [AG];omega) (fun e=>hne (by injection e))
 exact⟨(World.cell?_of_block hh).trans e3.1,(World.cell?_of_block (a:=⟨(a.add (i*2)).block,_,none⟩) hh).trans e3.2⟩
end
theorem OwnE.box{base p:Nat}{w:World}{v:Value}{l:List Ent}(h:OwnE base w v l)(hb:base≤w.heap.size)(c:Calm w p)(hp:p<base)(i:Nat)(x:Value):OwnE base (w.setCell ⟨p,i,none⟩ x) v l:=by
 obtain⟨P,hP,r,f⟩:=h
 refine⟨P,hP,AS r hp,fun q hq=>⟨(f q hq).1,?_⟩⟩
 obtain⟨h1,h2,h3 | h3⟩:=(f q hq).2
 ·exact⟨h1,h2,.inl (h3.kpB hb c (Ad w p i x))⟩
 ·exact⟨h1,h2,.inr (AS h3 hp)⟩
theorem OwnU.box{base p:Nat}{w:World}{v:Value}{l:List Upl}(h:OwnU base w v l)(hb:base≤w.heap.size)(c:Calm w p)(hp:p<base)(i:Nat)(x:Value):OwnU base (w.setCell ⟨p,i,none⟩ x) v l:=by
 obtain⟨P,hP,r,f⟩:=h
 refine⟨P,hP,AS r hp,fun q hq=>⟨(f q hq).1,?_⟩⟩
 obtain⟨h1,h2,h3 | h3⟩:=(f q hq).2
 ·exact⟨h1,h2,.inl (h3.kpB hb c (Ad w p i x))⟩
 ·exact⟨h1,h2,.inr (AS h3 hp)⟩
theorem AI{w:World}{p:Nat}{b:Bkt}{A1 A2:Option Addr}{n1 c1 n2 c2:Nat}(h:Bx w p 26 (bcl b (.slice A1 n1 c1) (.slice A2 n2 c2))):Calm w p:=⟨_,_,h,rfl⟩
theorem Tv{w:World}{p:Nat}{b:Bkt}{lv uv:Value}(h:Bx w p 26 (bcl b lv uv))(x:Value):Bx (w.setCell ⟨p,2,none⟩ x) p 26 (bcl b x uv):=h.set 2 _
theorem Tu{w:World}{p:Nat}{b:Bkt}{lv uv:Value}(h:Bx w p 26 (bcl b lv uv))(x:Value):Bx (w.setCell ⟨p,3,none⟩ x) p 26 (bcl b lv x):=h.set 3 _
theorem AM{w:World}{p:Nat}{b d:Bkt}{lv uv lx ux:Value}(h:Bx w p 26 (bcl d lx ux)):Bx (((((w.setCell ⟨p,0,none⟩ (.string b.name)).setCell ⟨p,1,none⟩ (.int .i64 b.st)).setCell ⟨p,2,none⟩ lv).setCell ⟨p,3,none⟩ uv).setCell ⟨p,4,none⟩ (.int .u64 (b.last:Nat))) p 26 (bcl b lv uv):=((((h.set 0 _).set 1 _).set 2 _).set 3 _).set 4 _
theorem AF{w:World}{p:Nat}{t:TypeId}{cs:Array Value}(h:Bx w p t cs):w.frozen? ⟨p,0,none⟩=false∧w.frozen? ⟨p,1,none⟩=false∧w.frozen? ⟨p,2,none⟩=false∧w.frozen? ⟨p,3,none⟩=false∧w.frozen? ⟨p,4,none⟩=false:=⟨h.frozen 0,h.frozen 1,h.frozen 2,h.frozen 3,h.frozen 4⟩
def noB:Bkt:=⟨noS,0,[],[],0⟩
theorem Cy(b:Bkt)(lv uv:Value)(w:World)(hs:smE b.L)(hu:smL b.U)(hv:BktV w b lv uv):
  Calls Tryz.prog 104 #[bkt b lv uv] w fun e w'=>∃ A c A' c',e=.returned (bkt b (.slice A b.L.length c) (.slice A' b.U.length c'))∧BktV w' b (.slice A b.L.length c) (.slice A' b.U.length c')∧Q w w':=by
 obtain⟨A1,c1,rfl⟩:=hv.1.form
 obtain⟨A2,c2,rfl⟩:=hv.2.form
 have q0:Q w ((w.alloc (.cells (bcl b (.slice A1 b.L.length c1) (.slice A2 b.U.length c2)) 26)).alloc (.cells (bcl noB (.slice none 0 0) (.slice none 0 0)) 26)):=((Q.refl w).alloc _).alloc _
 have Z:=AC ((Bx.new w 26 (bcl b (.slice A1 b.L.length c1) (.slice A2 b.U.length c2))).alloc (.cells (bcl noB (.slice none 0 0) (.slice none 0 0)) 26))
 have Y0:=Bx.new (w.alloc (.cells (bcl b (.slice A1 b.L.length c1) (.slice A2 b.U.length c2)) 26)) 26 (bcl noB (.slice none 0 0) (.slice none 0 0))
 simp only [World.size_alloc] at Y0
 have Y:=AC Y0
 have HV:=AC hv
 have HO:=AC hv.1.okVs
 have HL:=AC hs.1.2
 have HU:=AC hu.2
 have hl:=hs.1.1
 have hul:=hu.1
 have CL0:=Fy b.L (.slice A1 b.L.length c1) ((w.alloc (.cells (bcl b (.slice A1 b.L.length c1) (.slice A2 b.U.length c2)) 26)).alloc (.cells (bcl noB (.slice none 0 0) (.slice none 0 0)) 26)) (by omega) (hv.1.on q0)
 simp only [World.size_alloc] at CL0
 have CL:=AC CL0
 have CU:=AC fun d (q:Q w d)=>Fw b.U (.slice A2 b.U.length c2) d (by omega) (hv.2.on q)
 clear hs hu hv Y0 CL0
 rw [bkt]
 go_enter Tryz.func104,Tryz.ntmps104
 go_wp2_with fail
 refine(CL.out).mono ?_
 rintro e w1 ⟨v1,P1,rfl,hP1,r1,f1,q1⟩
 have own1:OwnE (w.heap.size+1+1) w1 v1 b.L:=⟨P1,hP1,r1,fun p hp=>⟨(f1 p hp).1,by
  have hx:p.1∈b.L:=by rw [← hP1];exact List.mem_map.2 ⟨_,hp,rfl⟩
  exact HO.out _ hx,(f1 p hp).2.1,.inl (f1 p hp).2.2⟩⟩
 clear CL r1 f1 hP1 P1
 obtain⟨A,c,rfl⟩:=own1.len
 have z1:=Z.out.on q1
 have y1:=Y.out.on q1
 have s1:w.heap.size+1+1≤w1.heap.size:=by have:=q1.size;simpa using this
 obtain⟨k0,k1,k2,k3,k4⟩:=AD z1
 obtain⟨fz0,fz1,fz2,fz3,fz4⟩:=AF z1
 have own2:=own1.box s1 (AI z1) (by omega) 2 (.slice A b.L.length c)
 have z2:=Tv z1 (.slice A b.L.length c)
 have y2:=y1.other (B2:=w.heap.size) (by omega) 2 (.slice A b.L.length c)
 have qs:Q w (w1.setCell ⟨w.heap.size,2,none⟩ (.slice A b.L.length c)):=Q.set (q0.trans q1) (Nat.le_refl _) _
 have ss:w.heap.size+1+1≤(w1.setCell ⟨w.heap.size,2,none⟩ (.slice A b.L.length c)).heap.size:=by simpa using s1
 have K:=AC (And.intro z2 (And.intro y2 (And.intro own2 (And.intro qs ss))))
 clear z1 y1 own1 own2 z2 y2 qs ss k0 k1 k3 k4 fz0 fz1 fz3 fz4
 go_wp2_with fail
 go_loopw [14] (fun I wr=>∃ i:Nat,i≤b.L.length∧I=.int .i64 i∧(Bx wr w.heap.size 26 (bcl b (.slice A b.L.length c) (.slice A2 b.U.length c2))∧Bx wr (w.heap.size+1) 26 (bcl noB (.slice none 0 0) (.slice none 0 0)))∧OwnE (w.heap.size+1+1) wr (.slice A b.L.length c) b.L∧Q w wr∧w.heap.size+1+1≤wr.heap.size) (fun I _=>b.L.length - (intOf I).toNat)
 case atStart=>exact⟨0,Nat.zero_le _,rfl,⟨K.out.1,K.out.2.1⟩,K.out.2.2.1,K.out.2.2.2.1,K.out.2.2.2.2⟩
 case round=>
  obtain⟨i,hil,rfl,⟨zr,yr⟩,hown,q,sr⟩:=hrel
  clear K k2 fz2 s1
  by_cases hlt:i<b.L.length
  ·obtain⟨P,hP,r,f⟩:=hown
   have hPl:P.length=b.L.length:=by rw [← hP,List.length_map]
   obtain⟨a,hA,ha1,ha2,hat⟩:=MD r i (by omega)
   subst hA
   have hpi:P[i]'(by omega)∈P:=List.getElem_mem _
   have hx1:(P[i]'(by omega)).1=b.L[i]:=by simp [← hP]
   have hx2:=(HL.out _ (List.getElem_mem hlt)).2.1
   have ap0:=(f _ hpi).2
   rw [← hx1] at hx2
   obtain⟨x,hx⟩:∃ x,x=P[i]'(by omega):=⟨_,rfl⟩
   have HXX:=AC hx
   rw [← hx] at hat ap0 hx2
   obtain⟨x,u⟩:=x
   dsimp only at hat ap0 hx2
   clear hx hx1 hpi
   have hvs:=ap0.vers sr
   obtain⟨A3,c3,rfl⟩:=hvs.form
   obtain⟨d0,d1,-⟩:=hat _ (Q.refl _)
   have HAT:=AC hat
   have CV:Hid (∀ d,Q wr d→Calls Tryz.prog 110 #[.slice A3 x.L.length c3] d fun e w'=>∃ v',e=.returned v'∧OwnV d.heap.size w' v' x.L∧Q d w'):=AC (fun d k=>Ds x.L _ d (by omega) (hvs.on k))
   have R:=AC r
   have F:=AC f
   have hok:=AC ap0.1
   have HP:=AC hP
   have hilt:(i:Int)<(b.L.length:Int):=by omega
   have ZY:=AC (And.intro zr yr)
   obtain⟨k0,k1,k2,k3,k4⟩:=AD zr
   have KF:Hid (∀ d,Q (wr.alloc (.cells #[.string x.key,.slice A3 x.L.length c3] 79)) d→(fun W=>Bx W w.heap.size 26 (bcl b (.slice (some a) b.L.length c) (.slice A2 b.U.length c2))∧W.cell? ⟨wr.heap.size,1,none⟩=some (.slice A3 x.L.length c3)∧Q wr W) d):=AC fun d qd=>
    ⟨ZY.out.1.on (((Q.refl wr).alloc _).trans qd),(by rw [((Bx.new wr 79 #[.string x.key,.slice A3 x.L.length c3]).on qd).cell];rfl),((Q.refl wr).alloc _).trans qd⟩
   have q9:=(Q.refl (wr.alloc (.cells #[.string x.key,.slice A3 x.L.length c3] 79))).drew
   have q8:=(Q.refl wr).alloc (.cells #[.string x.key,.slice A3 x.L.length c3] 79)
   clear hat hvs ap0 r f hP zr yr
   go_wp2_with fail
   refine Aw (F:=(fun W=>Bx W w.heap.size 26 (bcl b (.slice (some a) b.L.length c) (.slice A2 b.U.length c2))∧W.cell? ⟨wr.heap.size,1,none⟩=some (.slice A3 x.L.length c3)∧Q wr W)) (st:=8) (by kernel_rfl) (KF.out _ q9) (fun hTill=>?_)
   refine AK (i:=0) (o:=_) (v:=?_) rfl (by kernel_rfl) (by kernel_rfl) (by kernel_rfl) (by decide) (fun _ _ _ h=>h) (Or.inl ⟨by rfl,?_⟩) (by first | (intro _;assumption) | (intro e;exact absurd e (by decide))) ?_
   rotate_left
   ·(intro wx hSw;go_simp;(try with_reducible rfl))
   refine pg ?_
   refine AL (i:=1) (o:=_) (v:=?_) rfl (by kernel_rfl) (by kernel_rfl) (by kernel_rfl) (by kernel_rfl) (by rfl) (fun _ _ _ h=>h) (Or.inl ⟨by rfl,?_⟩) (by assumption) ?_
   rotate_left
   ·(intro wx hSw;have hz:=(AD hSw.1).2.2.1;have hz2:=hSw.2.1;go_simp;(try with_reducible rfl))
   refine pg ?_
   refine AK (i:=2) (o:=_) (v:=?_) rfl (by kernel_rfl) (by kernel_rfl) (by kernel_rfl) (by decide) (fun _ _ _ h=>h) (Or.inl ⟨by rfl,?_⟩) (by first | (intro _;assumption) | (intro e;exact absurd e (by decide))) ?_
   rotate_left
   ·(intro wx hSw;go_simp;(try with_reducible rfl))
   refine pg ?_
   refine AK (i:=3) (o:=_) (v:=?_) rfl (by kernel_rfl) (by kernel_rfl) (by kernel_rfl) (by decide) (fun _ _ _ h=>h) (Or.inl ⟨by rfl,?_⟩) (by first | (intro _;assumption) | (intro e;exact absurd e (by decide))) ?_
   rotate_left
   ·(intro wx hSw;go_simp;(try with_reducible rfl))
   refine pg ?_
   refine AL (i:=4) (o:=_) (v:=?_) rfl (by kernel_rfl) (by kernel_rfl) (by kernel_rfl) (by kernel_rfl) (by rfl) (fun _ _ _ h=>h) (Or.inl ⟨by rfl,?_⟩) (by assumption) ?_
   rotate_left
   ·(intro wx hSw;have hz:=(AD hSw.1).2.2.1;have hz2:=hSw.2.1;go_simp;(try with_reducible rfl))
   refine pg ?_
   refine Af (i:=5) (o:=_) (by kernel_rfl) rfl (fun K hK=>?_)
   go_simp
   go_at_call 110
   refine(CV.out _ (q8.trans q9)).mono ?_
   rintro e wc ⟨v3,rfl,o3,q3⟩
   obtain⟨A6,n6,c6,rfl⟩:∃ A n c,v3=.slice A n c:=by obtain⟨A,c,e⟩:=Ae o3;exact⟨A,_,c,e⟩
   have O3:=AC o3
   have qc:=(q8.trans q9).trans q3
   obtain⟨e0,e1,e2⟩:=HAT.out _ qc
   clear o3
   refine hK.out _ _ (KF.out _ (q9.trans q3)) (fun hTill=>?_)
   clear hK K
   refine pg ?_
   refine AK (i:=6) (o:=_) (v:=?_) rfl (by kernel_rfl) (by kernel_rfl) (by kernel_rfl) (by decide) (fun _ _ _ h=>h) (Or.inl ⟨by rfl,?_⟩) (by first | (intro _;assumption) | (intro e;exact absurd e (by decide))) ?_
   rotate_left
   ·(intro wx hSw;go_simp;(try with_reducible rfl))
   refine pg ?_
   refine AK (i:=7) (o:=_) (v:=?_) rfl (by kernel_rfl) (by kernel_rfl) (by kernel_rfl) (by decide) (fun _ _ _ h=>h) (Or.inl ⟨by rfl,?_⟩) (by first | (intro _;assumption) | (intro e;exact absurd e (by decide))) ?_
   rotate_left
   ·(intro wx hSw;go_simp;(try with_reducible rfl))
   refine pg ?_
   refine Ah (i:=8) (o:=_) (by kernel_rfl) rfl (by rfl) (fun K hK=>?_)
   go_simp
   refine hK.out _ _ ?_
   clear hK K
   refine pg ?_
   refine BR (by kernel_rfl) ?_ _
   have r3:=R.out.on qc
   have f3:∀ p∈P,p.1.key.size≤maxLen∧Apt (w.heap.size+1+1) wc p.2 p.1.L:=fun p hp=>⟨(F.out p hp).1,(F.out p hp).2.on qc sr⟩
   have u3:Apt (w.heap.size+1+1) wc (.slice A6 n6 c6) (P[i]'(by omega)).1.L:=by
    rw [← HXX.out]
    exact⟨hok.out,by unfold maxLen;show x.L.length≤_;omega,.inr (OwnV.low O3.out (by simp;omega))⟩
   have s3:=Fi r3 f3 i (by omega) u3 (Nat.le_trans sr qc.size)
   rw [HP.out] at s3
   have b3:Q w (wc.setCell ⟨(a.add (i*2)).block,(a.add (i*2)).off+1,none⟩ (.slice A6 n6 c6)):=Q.set (q.trans qc) (by rw [AG];omega) _
   have z3:Bx (wc.setCell ⟨(a.add (i*2)).block,(a.add (i*2)).off+1,none⟩ (.slice A6 n6 c6)) w.heap.size 26 (bcl b (.slice (some a) b.L.length c) (.slice A2 b.U.length c2)):=(ZY.out.1.on qc).other (by rw [AG];omega) _ _
   have y3:Bx (wc.setCell ⟨(a.add (i*2)).block,(a.add (i*2)).off+1,none⟩ (.slice A6 n6 c6)) (w.heap.size+1) 26 (bcl noB (.slice none 0 0) (.slice none 0 0)):=(ZY.out.2.on qc).other (by rw [AG];omega) _ _
   have sz3:w.heap.size+1+1≤(wc.setCell ⟨(a.add (i*2)).block,(a.add (i*2)).off+1,none⟩ (.slice A6 n6 c6)).heap.size:=by have:=qc.size;simp;omega
   have K3:=AC (And.intro (And.intro z3 y3) (And.intro s3 (And.intro b3 sz3)))
   clear r3 f3 u3 z3 y3 s3 b3 sz3 e0 e1 e2 k0 k1 k2 k3 k4 d0 d1
   go_wp2_with fail
   go_roundw
   case rel=>exact⟨i+1,by omega,by go_num,K3.out.1,K3.out.2.1,K3.out.2.2.1,K3.out.2.2.2⟩
   case measure=>simp [intOf];omega
  ·have h2:¬ (i:Int)<(b.L.length:Int):=by omega
   have eN:=AC ((hown.ents sr).on (Q.refl _))
   have C2:=AC (CU.out _ q)
   have ZY:=AC (And.intro zr yr)
   obtain⟨k0,k1,k2,k3,k4⟩:=AD zr
   clear hown zr yr
   go_wp2_with fail
   refine(C2.out).mono ?_
   rintro e w2 ⟨v2,rfl,own2,q2⟩
   obtain⟨A5,c5,rfl⟩:=own2.form
   have z2:=ZY.out.1.on q2
   have y2:=ZY.out.2.on q2
   obtain⟨k0,k1,k2,k3,k4⟩:=AD z2
   obtain⟨fz0,fz1,fz2,fz3,fz4⟩:=AF z2
   have cm:=AI z2
   have own3:=own2.box q2.size cm (by omega) 3 (.slice A5 b.U.length c5)
   have e3:Ents (w2.setCell ⟨w.heap.size,3,none⟩ (.slice A5 b.U.length c5)) wr.heap.size (.slice A b.L.length c) b.L:=(eN.out.below q2).kpB q2.size cm (Ad _ _ _ _)
   have z3:=Tu z2 (.slice A5 b.U.length c5)
   have y3:=y2.other (B2:=w.heap.size) (by omega) 3 (.slice A5 b.U.length c5)
   have qs:Q w (w2.setCell ⟨w.heap.size,3,none⟩ (.slice A5 b.U.length c5)):=Q.set (q.trans q2) (Nat.le_refl _) _
   have ss:wr.heap.size≤(w2.setCell ⟨w.heap.size,3,none⟩ (.slice A5 b.U.length c5)).heap.size:=by have:=q2.size;simpa using this
   have K2:=AC (And.intro (And.intro z3 y3) (And.intro e3 (And.intro own3 (And.intro qs ss))))
   obtain⟨N0,hN0⟩:∃ n,n=wr.heap.size:=⟨_,rfl⟩
   have HN0:Hid (w.heap.size+1+1≤N0):=AC (by omega)
   rw [← hN0] at K2
   clear z2 y2 own2 own3 e3 z3 y3 qs ss k0 k1 k2 k4 fz0 fz1 fz2 fz4 cm
   go_wp2_with fail
   go_loopw [35] (fun I wr=>∃ i:Nat,i≤b.U.length∧I=.int .i64 i∧(Bx wr w.heap.size 26 (bcl b (.slice A b.L.length c) (.slice A5 b.U.length c5))∧Bx wr (w.heap.size+1) 26 (bcl noB (.slice none 0 0) (.slice none 0 0)))∧Ents wr N0 (.slice A b.L.length c) b.L∧OwnU N0 wr (.slice A5 b.U.length c5) b.U∧Q w wr∧N0≤wr.heap.size) (fun I _=>b.U.length - (intOf I).toNat)
   case atStart=>exact⟨0,Nat.zero_le _,rfl,K2.out.1,K2.out.2.1,K2.out.2.2.1,K2.out.2.2.2.1,K2.out.2.2.2.2⟩
   case round=>
    obtain⟨i,hil,rfl,⟨zr2,yr2⟩,hen,hown,qq,sr2⟩:=hrel
    clear K2 ZY k3 fz3
    by_cases hlt2:i<b.U.length
    ·obtain⟨P,hP,r,f⟩:=hown
     have hPl:P.length=b.U.length:=by rw [← hP,List.length_map]
     obtain⟨a,hA,ha1,ha2,hat⟩:=r.at i (by omega)
     subst hA
     have hpi:P[i]'(by omega)∈P:=List.getElem_mem _
     have hx1:(P[i]'(by omega)).1=b.U[i]:=by simp [← hP]
     have hx2:=(HU.out _ (List.getElem_mem hlt2)).2.1
     have ap0:=(f _ hpi).2
     rw [← hx1] at hx2
     obtain⟨x,hx⟩:∃ x,x=P[i]'(by omega):=⟨_,rfl⟩
     have HXX:=AC hx
     rw [← hx] at hat ap0 hx2
     obtain⟨x,u⟩:=x
     dsimp only at hat ap0 hx2
     clear hx hx1 hpi
     have hvs:=ap0.read sr2
     obtain⟨A3,c3,rfl⟩:=hvs.form
     obtain⟨d0,d1,d2,-⟩:=hat _ (Q.refl _)
     have HAT:=AC hat
     have CV:Hid (∀ d,Q wr d→Calls Tryz.prog 139 #[.slice A3 x.L.length c3] d fun e w'=>∃ v',e=.returned v'∧OwnP d.heap.size w' v' x.L∧Q d w'):=AC (fun d k=>Fx x.L _ d (by omega) (hvs.on k))
     have R:=AC r
     have F:=AC f
     have hok:=AC ap0.1
     have HP:=AC hP
     have hilt2:(i:Int)<(b.U.length:Int):=by omega
     have ZY2:=AC (And.intro zr2 (And.intro yr2 hen))
     obtain⟨k0,k1,k2,k3,k4⟩:=AD zr2
     have KF:Hid (∀ d,Q (wr.alloc (.cells #[.int .u64 (x.id:Nat),.string x.key,.slice A3 x.L.length c3] 107)) d→(fun W=>Bx W w.heap.size 26 (bcl b (.slice A b.L.length c) (.slice (some a) b.U.length c5))∧W.cell? ⟨wr.heap.size,2,none⟩=some (.slice A3 x.L.length c3)∧Q wr W) d):=AC fun d qd=>
      ⟨ZY2.out.1.on (((Q.refl wr).alloc _).trans qd),(by rw [((Bx.new wr 107 #[.int .u64 (x.id:Nat),.string x.key,.slice A3 x.L.length c3]).on qd).cell];rfl),((Q.refl wr).alloc _).trans qd⟩
     have q9:=(Q.refl (wr.alloc (.cells #[.int .u64 (x.id:Nat),.string x.key,.slice A3 x.L.length c3] 107))).drew
     have q8:=(Q.refl wr).alloc (.cells #[.int .u64 (x.id:Nat),.string x.key,.slice A3 x.L.length c3] 107)
     clear hat hvs ap0 r f hP zr2 yr2 hen
     go_wp2_with fail
     refine Aw (F:=(fun W=>Bx W w.heap.size 26 (bcl b (.slice A b.L.length c) (.slice (some a) b.U.length c5))∧W.cell? ⟨wr.heap.size,2,none⟩=some (.slice A3 x.L.length c3)∧Q wr W)) (st:=8) (by kernel_rfl) (KF.out _ q9) (fun hTill=>?_)
     refine AK (i:=0) (o:=_) (v:=?_) rfl (by kernel_rfl) (by kernel_rfl) (by kernel_rfl) (by decide) (fun _ _ _ h=>h) (Or.inl ⟨by rfl,?_⟩) (by first | (intro _;assumption) | (intro e;exact absurd e (by decide))) ?_
     rotate_left
     ·(intro wx hSw;go_simp;(try with_reducible rfl))
     refine pg ?_
     refine AL (i:=1) (o:=_) (v:=?_) rfl (by kernel_rfl) (by kernel_rfl) (by kernel_rfl) (by kernel_rfl) (by rfl) (fun _ _ _ h=>h) (Or.inl ⟨by rfl,?_⟩) (by assumption) ?_
     rotate_left
     ·(intro wx hSw;have hz:=(AD hSw.1).2.2.2.1;have hz2:=hSw.2.1;go_simp;(try with_reducible rfl))
     refine pg ?_
     refine AK (i:=2) (o:=_) (v:=?_) rfl (by kernel_rfl) (by kernel_rfl) (by kernel_rfl) (by decide) (fun _ _ _ h=>h) (Or.inl ⟨by rfl,?_⟩) (by first | (intro _;assumption) | (intro e;exact absurd e (by decide))) ?_
     rotate_left
     ·(intro wx hSw;go_simp;(try with_reducible rfl))
     refine pg ?_
     refine AK (i:=3) (o:=_) (v:=?_) rfl (by kernel_rfl) (by kernel_rfl) (by kernel_rfl) (by decide) (fun _ _ _ h=>h) (Or.inl ⟨by rfl,?_⟩) (by first | (intro _;assumption) | (intro e;exact absurd e (by decide))) ?_
     rotate_left
     ·(intro wx hSw;go_simp;(try with_reducible rfl))
     refine pg ?_
     refine AL (i:=4) (o:=_) (v:=?_) rfl (by kernel_rfl) (by kernel_rfl) (by kernel_rfl) (by kernel_rfl) (by rfl) (fun _ _ _ h=>h) (Or.inl ⟨by rfl,?_⟩) (by assumption) ?_
     rotate_left
     ·(intro wx hSw;have hz:=(AD hSw.1).2.2.2.1;have hz2:=hSw.2.1;go_simp;(try with_reducible rfl))
     refine pg ?_
     refine Af (i:=5) (o:=_) (by kernel_rfl) rfl (fun K hK=>?_)
     go_simp
     go_at_call 139
     refine(CV.out _ (q8.trans q9)).mono ?_
     rintro e wc ⟨v3,rfl,o3,q3⟩
     obtain⟨A6,n6,c6,rfl⟩:∃ A n c,v3=.slice A n c:=by obtain⟨A,c,e⟩:=o3.form;exact⟨A,_,c,e⟩
     have O3:=AC o3
     have qc:=(q8.trans q9).trans q3
     obtain⟨e0,e1,e2,e3,e4,e5⟩:=HAT.out _ qc
     clear o3
     refine hK.out _ _ (KF.out _ (q9.trans q3)) (fun hTill=>?_)
     clear hK K
     refine pg ?_
     refine AK (i:=6) (o:=_) (v:=?_) rfl (by kernel_rfl) (by kernel_rfl) (by kernel_rfl) (by decide) (fun _ _ _ h=>h) (Or.inl ⟨by rfl,?_⟩) (by first | (intro _;assumption) | (intro e;exact absurd e (by decide))) ?_
     rotate_left
     ·(intro wx hSw;go_simp;(try with_reducible rfl))
     refine pg ?_
     refine AK (i:=7) (o:=_) (v:=?_) rfl (by kernel_rfl) (by kernel_rfl) (by kernel_rfl) (by decide) (fun _ _ _ h=>h) (Or.inl ⟨by rfl,?_⟩) (by first | (intro _;assumption) | (intro e;exact absurd e (by decide))) ?_
     rotate_left
     ·(intro wx hSw;go_simp;(try with_reducible rfl))
     refine pg ?_
     refine Ah (i:=8) (o:=_) (by kernel_rfl) rfl (by rfl) (fun K hK=>?_)
     go_simp
     refine hK.out _ _ ?_
     clear hK K
     refine pg ?_
     refine BR (by kernel_rfl) ?_ _
     have r3:=R.out.on qc
     have f3:∀ p∈P,DC N0 wc p:=fun p hp=>⟨(F.out p hp).1,(F.out p hp).2.on qc sr2⟩
     have u3:AptU N0 wc (.slice A6 n6 c6) x.L:=⟨hok.out,by unfold maxLen;omega,.inr (OwnP.low O3.out (by simp;omega))⟩
     have s3:=r3.store f3 i (by omega) u3 (Nat.le_trans sr2 qc.size)
     have hset:(P.map (·.1)).set i {(P[i]'(by omega)).1 with L:=x.L}=b.U:=by
      rw [← HXX.out,HP.out]
      refine List.ext_getElem (by simp) fun j h1 h2=>?_
      rw [List.getElem_set]
      split
      ·rename_i e;subst e
       have:x=b.U[i]:=by have:=congrArg Prod.fst HXX.out;simpa [← HP.out] using this
       rw [← this]
      ·rfl
     rw [hset] at s3
     have b3:Q w (wc.setCell ⟨(a.add (i*3)).block,(a.add (i*3)).off+2,none⟩ (.slice A6 n6 c6)):=Q.set (qq.trans qc) (by have:=HN0.out;rw [AG];omega) _
     have z3:Bx (wc.setCell ⟨(a.add (i*3)).block,(a.add (i*3)).off+2,none⟩ (.slice A6 n6 c6)) w.heap.size 26 (bcl b (.slice A b.L.length c) (.slice (some a) b.U.length c5)):=(ZY2.out.1.on qc).other (by have:=HN0.out;rw [AG];omega) _ _
     have y3:Bx (wc.setCell ⟨(a.add (i*3)).block,(a.add (i*3)).off+2,none⟩ (.slice A6 n6 c6)) (w.heap.size+1) 26 (bcl noB (.slice none 0 0) (.slice none 0 0)):=(ZY2.out.2.1.on qc).other (by have:=HN0.out;rw [AG];omega) _ _
     have n3:Ents (wc.setCell ⟨(a.add (i*3)).block,(a.add (i*3)).off+2,none⟩ (.slice A6 n6 c6)) N0 (.slice A b.L.length c) b.L:=ZY2.out.2.2.below (Below.setCell (Below.mono qc sr2) (by rw [AG];exact ha1) _)
     have sz3:N0≤(wc.setCell ⟨(a.add (i*3)).block,(a.add (i*3)).off+2,none⟩ (.slice A6 n6 c6)).heap.size:=by have:=qc.size;simp;omega
     have K3:=AC (And.intro (And.intro z3 y3) (And.intro n3 (And.intro s3 (And.intro b3 sz3))))
     clear r3 f3 u3 z3 y3 s3 b3 n3 sz3 hset e0 e1 e2 e3 e4 e5 k0 k1 k2 k3 k4 d0 d1 d2
     go_wp2_with fail
     go_roundw
     case rel=>exact⟨i+1,by omega,by go_num,K3.out.1,K3.out.2.1,K3.out.2.2.1,K3.out.2.2.2.1,K3.out.2.2.2.2⟩
     case measure=>simp [intOf];omega
    ·have h2:¬ (i:Int)<(b.U.length:Int):=by omega
     obtain⟨k0,k1,k2,k3,k4⟩:=AD zr2
     obtain⟨r0,r1,r2,r3,r4⟩:=AD yr2
     obtain⟨fz0,fz1,fz2,fz3,fz4⟩:=AF yr2
     have hne:w.heap.size≠w.heap.size+1:=by omega
     have E:=AC (And.intro yr2 (And.intro (hen.more sr2) (hown.read sr2)))
     have cm:=AC (AI yr2)
     clear hen hown zr2 yr2
     go_wp2
     (try simp only [Exit.inBlock,Exit.then])
     obtain⟨wC,hwC⟩:∃ wC,wC=((((wr.setCell ⟨w.heap.size+1,0,none⟩ (.string b.name)).setCell ⟨w.heap.size+1,1,none⟩ (.int .i64 b.st)).setCell ⟨w.heap.size+1,2,none⟩ (.slice A b.L.length c)).setCell ⟨w.heap.size+1,3,none⟩ (.slice A5 b.U.length c5)).setCell ⟨w.heap.size+1,4,none⟩ (.int .u64 (b.last:Nat)):=⟨_,rfl⟩
     have gk:Kp (w.heap.size+1) wr wC:=by rw [hwC];exact(((((Kp.of (Q.refl wr)).set 0 _).set 1 _).set 2 _).set 3 _).set 4 _
     have bD:Bx wC (w.heap.size+1) 26 (bcl b (.slice A b.L.length c) (.slice A5 b.U.length c5)):=by rw [hwC];exact AM E.out.1
     have qC:Q w wC:=gk.q qq (by omega)
     have eC:=E.out.2.1.kp cm.out gk
     have uC:=E.out.2.2.kp cm.out gk
     rw [← hwC]
     obtain⟨v0,v1,v2,v3,v4⟩:=AD bD
     refine bodyPost_ret (v:=.agg #[.string b.name,.int .i64 b.st,(.slice A b.L.length c),(.slice A5 b.U.length c5),.int .u64 (b.last:Nat)]) ?_ rfl ⟨A,c,A5,c5,rfl,⟨eC,uC⟩,qC⟩
     simp [results,Tryz.results104,go_sem,v0,v1,v2,v3,v4]
end
section
open Go.ChangeShapes Go.WideShapes Go.ChangeAt Go.RowKit Go.Shelf
theorem G0{w:World}{p:Nat}{b:Bkt}{A1 A2:Option Addr}{c1 c2 n t:Nat}{s:ByteArray}{x0 x1 x2 x3 x4 x5 x6 x7:Value}(h:Bx w p 109 #[x0,x1,x2,x3,x4,x5,x6,x7]):
  Bx ((((((((w.setCell ⟨p,0,none⟩ (.string b.name)).setCell ⟨p,1,none⟩ (.int .i64 b.st)).setCell ⟨p,2,none⟩ ((.slice A1 b.L.length c1))).setCell ⟨p,3,none⟩ ((.slice A2 b.U.length c2))).setCell ⟨p,4,none⟩ (.int .u64 (b.last:Nat))).setCell ⟨p,5,none⟩ (.int .u64 (n:Nat))).setCell ⟨p,6,none⟩ (.int .u32 (t:Nat))).setCell ⟨p,7,none⟩ (.string s)) p 109 (wcl b A1 c1 A2 c2 n t s)∧Kp p w ((((((((w.setCell ⟨p,0,none⟩ (.string b.name)).setCell ⟨p,1,none⟩ (.int .i64 b.st)).setCell ⟨p,2,none⟩ ((.slice A1 b.L.length c1))).setCell ⟨p,3,none⟩ ((.slice A2 b.U.length c2))).setCell ⟨p,4,none⟩ (.int .u64 (b.last:Nat))).setCell ⟨p,5,none⟩ (.int .u64 (n:Nat))).setCell ⟨p,6,none⟩ (.int .u32 (t:Nat))).setCell ⟨p,7,none⟩ (.string s)):=by
 have h0:Bx _ p 109 #[.string b.name,x1,x2,x3,x4,x5,x6,x7]:=h.set 0 (.string b.name)
 have h1:Bx _ p 109 #[.string b.name,.int .i64 b.st,x2,x3,x4,x5,x6,x7]:=h0.set 1 (.int .i64 b.st)
 have h2:Bx _ p 109 #[.string b.name,.int .i64 b.st,.slice A1 b.L.length c1,x3,x4,x5,x6,x7]:=h1.set 2 (.slice A1 b.L.length c1)
 have h3:Bx _ p 109 #[.string b.name,.int .i64 b.st,.slice A1 b.L.length c1,.slice A2 b.U.length c2,x4,x5,x6,x7]:=h2.set 3 (.slice A2 b.U.length c2)
 have h4:Bx _ p 109 #[.string b.name,.int .i64 b.st,.slice A1 b.L.length c1,.slice A2 b.U.length c2,.int .u64 (b.last:Nat),x5,x6,x7]:=h3.set 4 (.int .u64 (b.last:Nat))
 have h5:Bx _ p 109 #[.string b.name,.int .i64 b.st,.slice A1 b.L.length c1,.slice A2 b.U.length c2,.int .u64 (b.last:Nat),.int .u64 (n:Nat),x6,x7]:=h4.set 5 (.int .u64 (n:Nat))
 have h6:Bx _ p 109 #[.string b.name,.int .i64 b.st,.slice A1 b.L.length c1,.slice A2 b.U.length c2,.int .u64 (b.last:Nat),.int .u64 (n:Nat),.int .u32 (t:Nat),x7]:=h5.set 6 (.int .u32 (t:Nat))
 have h7:Bx _ p 109 #[.string b.name,.int .i64 b.st,.slice A1 b.L.length c1,.slice A2 b.U.length c2,.int .u64 (b.last:Nat),.int .u64 (n:Nat),.int .u32 (t:Nat),.string s]:=h6.set 7 (.string s)
 exact⟨h7,((((((((Kp.of (Q.refl w)).set 0 _).set 1 _).set 2 _).set 3 _).set 4 _).set 5 _).set 6 _).set 7 _⟩
theorem bx8{w:World}{p:Nat}{x0 x1 x2 x3 x4 x5 x6 x7:Value}(h:Bx w p 109 #[x0,x1,x2,x3,x4,x5,x6,x7]):
  (w.cell? ⟨p,0,none⟩=some x0∧w.cell? ⟨p,1,none⟩=some x1∧w.cell? ⟨p,2,none⟩=some x2∧w.cell? ⟨p,3,none⟩=some x3∧w.cell? ⟨p,4,none⟩=some x4∧w.cell? ⟨p,5,none⟩=some x5∧w.cell? ⟨p,6,none⟩=some x6∧w.cell? ⟨p,7,none⟩=some x7)∧
  (w.frozen? ⟨p,0,none⟩=false∧w.frozen? ⟨p,1,none⟩=false∧w.frozen? ⟨p,2,none⟩=false∧w.frozen? ⟨p,3,none⟩=false∧w.frozen? ⟨p,4,none⟩=false∧w.frozen? ⟨p,5,none⟩=false∧w.frozen? ⟨p,6,none⟩=false∧w.frozen? ⟨p,7,none⟩=false):=by
 refine⟨⟨?_,?_,?_,?_,?_,?_,?_,?_⟩,h.frozen 0,h.frozen 1,h.frozen 2,h.frozen 3,h.frozen 4,h.frozen 5,h.frozen 6,h.frozen 7⟩ <;> (rw [h.cell];rfl)
theorem TR(w:World)(E W P:Nat)(he:w.cell? ⟨E,0,none⟩=some (.int .i64 0)):
  CallsD Tryz.prog 105 #[.pointer (some ⟨E,0,none⟩),.pointer (some ⟨W,0,none⟩),.pointer (some ⟨P,0,none⟩)] .returning w fun e u' w'=>u'=.returning∧(e=.returned (.tuple #[])∧w'=w):=by
 go_enter_d Tryz.func105,Tryz.ntmps105
 go_wp2
 go_end0
 exact⟨rfl,rfl⟩
theorem SX(w:World)(E W P:Nat)(k:Int)(b:Bkt)(A1 A2:Option Addr)(c1 c2 n t:Nat)(s:ByteArray)(x0 x1 x2 x3 x4 x5 x6 x7:Value)(he:w.cell? ⟨E,0,none⟩=some (.int .i64 k))(hk:k≠0)(hw:Bx w W 109 (wcl b A1 c1 A2 c2 n t s))(hp:Bx w P 109 #[x0,x1,x2,x3,x4,x5,x6,x7])(hne:W≠P):
  CallsD Tryz.prog 105 #[.pointer (some ⟨E,0,none⟩),.pointer (some ⟨W,0,none⟩),.pointer (some ⟨P,0,none⟩)] .returning w fun e u' w'=>u'=.returning∧(e=.returned (.tuple #[])∧w'=((((((((w.setCell ⟨P,0,none⟩ (.string b.name)).setCell ⟨P,1,none⟩ (.int .i64 b.st)).setCell ⟨P,2,none⟩ ((.slice A1 b.L.length c1))).setCell ⟨P,3,none⟩ ((.slice A2 b.U.length c2))).setCell ⟨P,4,none⟩ (.int .u64 (b.last:Nat))).setCell ⟨P,5,none⟩ (.int .u64 (n:Nat))).setCell ⟨P,6,none⟩ (.int .u32 (t:Nat))).setCell ⟨P,7,none⟩ (.string s))):=by
 have h2:(k != 0)=true:=by simpa using hk
 obtain⟨e0,e1,e2,e3,e4,e5,e6,e7⟩:=(AO hw).1
 obtain⟨⟨d0,d1,d2,d3,d4,d5,d6,d7⟩,f0,f1,f2,f3,f4,f5,f6,f7⟩:=bx8 hp
 clear hw hp hk
 go_enter_d Tryz.func105,Tryz.ntmps105
 go_wp2
 go_end0
 exact⟨rfl,rfl⟩
theorem Gd(R:Ending→World→Prop)(tmps:Array Value)(P1 P2 W:Nat)(wz:World)(k:Int)(b:Bkt)(A1 A2:Option Addr)(c1 c2 n t:Nat)(s:ByteArray)(x0 x1 x2 x3 x4 x5 x6 x7:Value)
  (t4:tmps.getD 4 undef=.pointer (some ⟨P1,0,none⟩)) (t5:tmps.getD 5 undef=.pointer (some ⟨P2,0,none⟩)) (hx:Bx wz P2 32 #[.int .i64 k]) (hk:k≠0) (hw:Bx wz W 109 (wcl b A1 c1 A2 c2 n t s)) (hy:Bx wz P1 109 #[x0,x1,x2,x3,x4,x5,x6,x7]) (hne:W≠P1) (hn2:P2≠P1)
  (hR:∀ w',Bx w' P1 109 (wcl b A1 c1 A2 c2 n t s)→Kp P1 wz w'→R (.returned (.tuple #[.agg (wcl b A1 c1 A2 c2 n t s),.int .i64 k])) w') :
  bodyPostD Tryz.prog Tryz.f54 R Exit.ret {tmps:=tmps,defers:=[{target:=Target.fn (Fn.func 105) #[.pointer (some ⟨P2,0,none⟩),.pointer (some ⟨W,0,none⟩),.pointer (some ⟨P1,0,none⟩)],args:=#[]}]} wz:=by
 refine leaves_cons (f:=105) (args:=#[.pointer (some ⟨P2,0,none⟩),.pointer (some ⟨W,0,none⟩),.pointer (some ⟨P1,0,none⟩)]) (by simp) (by simp [go_sem]) ?_
 refine(SX wz P2 W P1 k b A1 A2 c1 c2 n t s x0 x1 x2 x3 x4 x5 x6 x7 (by rw [hx.cell];rfl) hk hw hy hne).mono ?_
 rintro e u' w'' ⟨rfl,rfl,h⟩
 have g:=(G0 (b:=b) (A1:=A1) (A2:=A2) (c1:=c1) (c2:=c2) (n:=n) (t:=t) (s:=s) hy)
 have g1:Bx w'' P1 109 (wcl b A1 c1 A2 c2 n t s):=by rw [h];exact g.1
 have g2:Kp P1 wz w'':=by rw [h];exact g.2
 clear g h
 have g3:=g2.bx hx hn2
 obtain⟨v0,v1,v2,v3,v4,v5,v6,v7⟩:=(AO g1).1
 have v8:w''.cell? ⟨P2,0,none⟩=some (.int .i64 k):=by rw [g3.cell];rfl
 refine⟨.tuple #[.agg (wcl b A1 c1 A2 c2 n t s),.int .i64 k],?_,hR w'' g1 g2⟩
 have u4:tmps[4]?.getD undef=.pointer (some ⟨P1,0,none⟩):=by simpa using t4
 have u5:tmps[5]?.getD undef=.pointer (some ⟨P2,0,none⟩):=by simpa using t5
 simp [results,Tryz.results54,go_sem,u4,u5,v0,v1,v2,v3,v4,v5,v6,v7,v8,wcl]
theorem Rz(R:Ending→World→Prop)(tmps:Array Value)(P1 P2 W:Nat)(wz:World)(b:Bkt)(A1 A2:Option Addr)(c1 c2 n t:Nat)(s:ByteArray)
  (t4:tmps.getD 4 undef=.pointer (some ⟨P1,0,none⟩)) (t5:tmps.getD 5 undef=.pointer (some ⟨P2,0,none⟩)) (hx:Bx wz P2 32 #[.int .i64 0]) (hy:Bx wz P1 109 (wcl b A1 c1 A2 c2 n t s))
  (hR:R (.returned (.tuple #[.agg (wcl b A1 c1 A2 c2 n t s),.int .i64 0])) wz) :
  bodyPostD Tryz.prog Tryz.f54 R Exit.ret {tmps:=tmps,defers:=[{target:=Target.fn (Fn.func 105) #[.pointer (some ⟨P2,0,none⟩),.pointer (some ⟨W,0,none⟩),.pointer (some ⟨P1,0,none⟩)],args:=#[]}]} wz:=by
 refine leaves_cons (f:=105) (args:=#[.pointer (some ⟨P2,0,none⟩),.pointer (some ⟨W,0,none⟩),.pointer (some ⟨P1,0,none⟩)]) (by simp) (by simp [go_sem]) ?_
 have v8:wz.cell? ⟨P2,0,none⟩=some (.int .i64 0):=by rw [hx.cell];rfl
 refine(TR wz P2 W P1 v8).mono ?_
 rintro e u' w'' ⟨rfl,rfl,rfl⟩
 obtain⟨v0,v1,v2,v3,v4,v5,v6,v7⟩:=(AO hy).1
 refine⟨.tuple #[.agg (wcl b A1 c1 A2 c2 n t s),.int .i64 0],?_,hR⟩
 have u4:tmps[4]?.getD undef=.pointer (some ⟨P1,0,none⟩):=by simpa using t4
 have u5:tmps[5]?.getD undef=.pointer (some ⟨P2,0,none⟩):=by simpa using t5
 simp [results,Tryz.results54,go_sem,u4,u5,v0,v1,v2,v3,v4,v5,v6,v7,v8,wcl]
end
end Go.Proofs.YtjjlbbfhmpbneaaGreat
