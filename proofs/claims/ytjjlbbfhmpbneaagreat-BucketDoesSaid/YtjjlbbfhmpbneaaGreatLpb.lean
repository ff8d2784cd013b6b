/-
  Contract of the document's Lay. Contract of the document's Lay, whatever is handed in.
-/
import Derived.Deep.DeepCutAuto
import Derived.Deep.RegionHeld3
import Derived.Test.YtjjlbbfhmpbneaaGreatLp
namespace Go.Proofs.YtjjlbbfhmpbneaaGreat
open Lib renaming hid → AC
set_option maxHeartbeats 16000000
set_option maxRecDepth 100000
set_option linter.unusedVariables false
set_option linter.unusedSimpArgs false
section
open Go.ChangeShapes Go.WideShapes Go.ChangeAt Go.RowKit
theorem Is{l:List Upl}{id:Nat}{p:Prt}{r:List Upl}{t e:Nat}(h:LayC l id p r t e)(k:¬ (Ab l∧Cd p=true)):r=[]∧t=0∧e=1:=by
 cases h with
 | arg h=>exact⟨rfl,rfl,rfl⟩
 | none h1 h2 _=>exact absurd ⟨h1,h2⟩ k
 | large _ _ h1 h2=>exact absurd ⟨h1,h2⟩ k
 | yes _ _ h1 h2=>exact absurd ⟨h1,h2⟩ k
theorem Pe{l:List Upl}{id:Nat}{p:Prt}{r:List Upl}{t e:Nat}(h:LayC l id p r t e)(h1:Ab l)(h2:Cd p=true)(k:∀ j (hl:j<l.length),l[j].id≠id):r=[]∧t=0∧e=4:=by
 cases h with
 | arg h=>exact absurd ⟨h1,h2⟩ h
 | none _ _ _=>exact⟨rfl,rfl,rfl⟩
 | large i hi _ _ h3=>exact absurd h3 (k i hi)
 | yes i hi _ _ h3=>exact absurd h3 (k i hi)
theorem GS{l:List Upl}{i j id:Nat}(hi:i<l.length)(hj:j<l.length)(ei:l[i].id=id)(ej:l[j].id=id)(mi:∀ k (hk:k<i) (hl:k<l.length),l[k].id≠id)(mj:∀ k (hk:k<j) (hl:k<l.length),l[k].id≠id):i=j:=by
 rcases Nat.lt_trichotomy i j with h | h | h
 ·exact absurd ei (mj i h hi)
 ·exact h
 ·exact absurd ej (mi j h hj)
theorem Mn{l:List Upl}{i id:Nat}{p:Prt}{r:List Upl}{t e:Nat}(h:LayC l id p r t e)(hi:i<l.length)(h1:Ab l)(h2:Cd p=true)(k:l[i].id=id)(m:∀ k (hk:k<i) (hl:k<l.length),l[k].id≠id)(z:30<(Aj l[i].L p).length):r=[]∧t=0∧e=6:=by
 cases h with
 | arg h=>exact absurd ⟨h1,h2⟩ h
 | none _ _ h=>exact absurd k (h i hi)
 | large _ _ _ _ _=>exact⟨rfl,rfl,rfl⟩
 | yes j hj _ _ h3 h4 h5=>obtain rfl:=GS hi hj k h3 m h4;exact absurd z h5
theorem RG{l:List Upl}{i id:Nat}{X:Upl}(h:Ab l)(hi:i<l.length)(k:l[i].id=id):l.set i X=l.map (fun y=>if y.id=id then X else y):=by
 refine List.ext_getElem (by simp) fun j h1 h2=>?_
 rw [List.getElem_set,List.getElem_map]
 have hj:j<l.length:=by simpa using h2
 by_cases e:i=j
 ·subst e;rw [if_pos rfl,if_pos k]
 ·rw [if_neg e,if_neg]
  intro hh
  rcases Nat.lt_or_ge i j with g | g
  ·have:=Cw h i j g hj;omega
  ·have:=Cw h j i (by omega) hi;omega
theorem Rh{l:List Upl}{i id:Nat}{p:Prt}{r:List Upl}{t e:Nat}(h:LayC l id p r t e)(hi:i<l.length)(h1:Ab l)(h2:Cd p=true)(k:l[i].id=id)(m:∀ k (hk:k<i) (hl:k<l.length),l[k].id≠id)(z:¬ 30<(Aj l[i].L p).length):
  r=l.map (fun y=>if y.id=id then⟨id,l[i].key,Aj l[i].L p⟩ else y)∧t=crc (bl p.data)∧e=0:=by
 cases h with
 | arg h=>exact absurd ⟨h1,h2⟩ h
 | none _ _ h=>exact absurd k (h i hi)
 | large j hj _ _ h3 h4 h5=>obtain rfl:=GS hi hj k h3 m h4;exact absurd h5 z
 | yes j hj _ _ h3 h4 h5=>
   obtain rfl:=GS hi hj k h3 m h4
   refine⟨?_,rfl,rfl⟩
   rw [RG h1 hi k];subst k;rfl
theorem Rd{L:List Prt}{i:Nat}{x:Int}(h:i<L.length)(k:L[i].n<x):(L.take (i+1)).filter (fun y=>decide (y.n<x))=(L.take i).filter (fun y=>decide (y.n<x)) ++ [L[i]]:=by
 rw [List.take_succ_eq_append_getElem h,List.filter_append,List.filter_cons_of_pos (by simpa using k)];rfl
theorem S9{L:List Prt}{i:Nat}{x:Int}(h:i<L.length)(k:¬ L[i].n<x):(L.take (i+1)).filter (fun y=>decide (y.n<x))=(L.take i).filter (fun y=>decide (y.n<x)):=by
 rw [List.take_succ_eq_append_getElem h,List.filter_append,List.filter_cons_of_neg (by simpa using k)];simp
theorem Rm{L:List Prt}{i:Nat}{x:Int}(h:i<L.length)(k:x<L[i].n):(L.take (i+1)).filter (fun y=>decide (x<y.n))=(L.take i).filter (fun y=>decide (x<y.n)) ++ [L[i]]:=by
 rw [List.take_succ_eq_append_getElem h,List.filter_append,List.filter_cons_of_pos (by simpa using k)];rfl
theorem TJ{L:List Prt}{i:Nat}{x:Int}(h:i<L.length)(k:¬ x<L[i].n):(L.take (i+1)).filter (fun y=>decide (x<y.n))=(L.take i).filter (fun y=>decide (x<y.n)):=by
 rw [List.take_succ_eq_append_getElem h,List.filter_append,List.filter_cons_of_neg (by simpa using k)];simp
theorem MF(l:List Upl)(v:Value)(id i0:Nat)(p:Prt)(w:World)(r:List Upl)(t e:Nat)(h:LayC l id p r t e)(hp:De p)(hs:smL l)(ht:Upls w w.heap.size v l)
  (h0:i0<l.length) (hok:Ab l) (hm:Cd p=true) (hid:l[i0].id=id) (hlo:∀ j (hj:j<i0) (hl:j<l.length),l[j].id≠id) :
  Calls Tryz.prog 87 #[v,.int .u64 (id:Nat),prt p] w fun z w'=>∃ u,z=.returned (.tuple #[u,.int .u32 (t:Nat),.int .i64 (e:Nat)])∧Upls w' w'.heap.size u r∧Q w w':=by
 have HT:=AC ht
 have hl:=hs.1
 have q00:=(Q.refl w).alloc (.cells #[.int .i64 p.n,.string p.data] 64)
 have F0:=Cs l v id _ l[i0] 0 (.yes i0 h0 hok hid hlo) hs (ht.on q00)
 have M:=AC fun d=>Ee p d
 have hsm:=hs.2 _ (List.getElem_mem h0)
 have hk0:=Rh h h0 hok hm hid hlo
 have hk1:=Mn h h0 hok hm hid hlo
 have hio:=Mc (hok.2 i0 h0).1
 have hoX:=ht.okAll _ (List.getElem_mem h0)
 have hokL:=ht.okIn _ (List.getElem_mem h0)
 have hd2:p.data.size≤5000:=by have:=(EO.1 hm).2.2;omega
 rw [hm] at M
 obtain⟨X,hX⟩:∃ X,X=l[i0]:=⟨_,rfl⟩
 rw [← hX] at F0 hsm hk0 hk1 hid hio hoX hokL
 have HX:=AC hX
 obtain⟨xi,key,L⟩:=X
 simp only at F0 hsm hk0 hk1 hid hio hoX hokL
 subst hid
 obtain⟨x,d⟩:=p
 have HK0:=AC hk0
 have HOKL:=AC hokL
 have HK1:=AC hk1
 have hL1:L.length≤1000:=hsm.2.1
 have O:=AC fun w=>IW d w hd2
 simp only [upl] at F0
 have FF:=AC F0
 rw [prt] at M ⊢
 simp only at M ⊢ q00 FF
 obtain⟨Av,cv,rfl⟩:=ht.form
 clear HX hk0 hk1 F0 ht hs h hok hm hlo h0 hX hokL hsm
 go_enter Tryz.func87,Tryz.ntmps87
 go_wp2_with fail
 refine(FF.out).mono ?_
 rintro e w1 ⟨u,rfl,hu,q1⟩
 obtain⟨A2,c2,rfl⟩:=hu.form
 obtain⟨n,hn⟩:∃ n,L.length=n:=⟨_,rfl⟩
 have HN:=AC hn
 rw [hn] at hu hL1 ⊢
 clear hn FF
 have qa:=q1.alloc (.cells #[.int .u64 (xi:Nat),.string key,.slice A2 n c2] 107)
 obtain⟨b0,b1⟩:=Ak qa
 go_wp2_with fail
 refine(M.out _).mono ?_
 rintro e w3 ⟨rfl,q3⟩
 clear b0 b1
 have HB0:Hid (∀ b,Q w3 b→b.cell? ⟨w.heap.size,0,none⟩=some (.int .i64 x)∧b.cell? ⟨w.heap.size,1,none⟩=some (.string d)):=AC fun b qb=>Ak (qa.trans (q3.trans qb))
 have HB1:Hid (∀ b,Q w3 b→b.cell? ⟨w1.heap.size,2,none⟩=some (.slice A2 n c2)):=AC fun b qb=>(Bf (q3.trans qb)).2.2
 obtain⟨-,k1,-⟩:=Bf q3
 have QW:=AC (q00.trans (qa.trans q3))
 have HP:=AC (hu.on (qa.trans q3))
 have AT0:(([]:List Prt).length≤0+0)∧Bx (w3.alloc (.cells #[.int .u64 (xi:Nat),.string key,.slice none 0 0] 107)) w3.heap.size 107 #[.int .u64 (xi:Nat),.string key,.slice none 0 0]∧OwnP (w3.heap.size+1) (w3.alloc (.cells #[.int .u64 (xi:Nat),.string key,.slice none 0 0] 107)) (.slice none 0 0) []∧Q w3 (w3.alloc (.cells #[.int .u64 (xi:Nat),.string key,.slice none 0 0] 107)):=⟨by simp,Bx.new _ _ _,OwnP.nil _ _,(Q.refl w3).alloc _⟩
 obtain⟨Z,hZ⟩:∃ Z:List Prt,Z=[]:=⟨_,rfl⟩
 have HZ0:Hid ([]=Z++(L.take 0).filter (fun y=>decide (y.n<x))):=AC (by rw [hZ];simp)
 have HZE:=AC hZ
 clear qa q1 q3 q00 hu M hZ
 go_wp2_with fail
 go_loopw [12] (fun I wr=>∃ (i:Nat) (A5:Option Addr) (n5 c5:Nat) (Y:List Prt),i≤n∧I=.int .i64 i∧Y.length≤0+i∧Bx wr w3.heap.size 107 #[.int .u64 (xi:Nat),.string key,.slice A5 n5 c5]∧OwnP (w3.heap.size+1) wr (.slice A5 n5 c5) Y∧Q w3 wr∧Hid (Y=Z++(L.take i).filter (fun y=>decide (y.n<x)))) (fun I _=>n - (intOf I).toNat)
 case atStart=>exact⟨0,_,_,_,_,Nat.zero_le _,rfl,AT0.1,AT0.2.1,AT0.2.2.1,AT0.2.2.2,HZ0⟩
 case round=>
  clear AT0 HZ0
  obtain⟨i,A5,n5,c5,Y,hil,rfl,hYl,bx,own,q,HY⟩:=hrel
  obtain⟨wo,hwo⟩:∃ x,x=wr:=⟨_,rfl⟩
  subst hwo
  obtain⟨e0,e1⟩:=HB0.out _ q
  have e2:=HB1.out _ q
  by_cases hlt:i<n
  ·have hltL:i<L.length:=by have:=HN.out;omega
   obtain⟨a2,c',hv,ha,-,hat⟩:=HP.out.pick i hltL
   injection hv with e3 e4 e5
   subst e3 e5
   have hilt:(i:Int)<(n:Int):=by omega
   have HYES:L[i].n<x→Hid (Y ++ [L[i]]=Z++(L.take (i+1)).filter (fun y=>decide (y.n<x))):=fun h=>AC (by rw [HY.out,Rd hltL h,List.append_assoc])
   have HNO:¬ (L[i].n<x)→Hid (Y=Z++(L.take (i+1)).filter (fun y=>decide (y.n<x))):=fun h=>AC (by rw [HY.out,S9 hltL h])
   obtain⟨⟨y,yd⟩,hy⟩:∃ y,y=L[i]'hltL:=⟨_,rfl⟩
   rw [← hy] at hat HYES HNO
   simp only at HYES HNO
   have HAT:Hid (∀ b,Q w3 b→b.cell? (a2.add (i*2))=some (.int .i64 y)∧b.cell? ⟨(a2.add (i*2)).block,(a2.add (i*2)).off+1,none⟩=some (.string yd)):=AC fun b qb=>hat b qb
   clear hat e4 hy
   have KS:Hid (∀ b,Q w3 b→(fun w'=>w'.cell? ⟨w.heap.size,0,none⟩=some (.int .i64 x)∧w'.cell? ⟨w1.heap.size,2,none⟩=some (.slice (some a2) n c2)∧w'.cell? (a2.add (i*2))=some (.int .i64 y)∧Q w3 w') b):=AC fun b qb=>⟨(HB0.out _ qb).1,HB1.out _ qb,(HAT.out _ qb).1,qb⟩
   by_cases hxy:y<x
   ·have HW:=HYES hxy
    clear HYES HNO
    go_wp2_with fail
    refine wp_region_held_drew (S:=(fun w'=>w'.cell? ⟨w.heap.size,0,none⟩=some (.int .i64 x)∧w'.cell? ⟨w1.heap.size,2,none⟩=some (.slice (some a2) n c2)∧w'.cell? (a2.add (i*2))=some (.int .i64 y)∧Q w3 w')) (by kernel_rfl) (KS.out _ q.drew) (fun hHeld=>?_)
    refine tkV 0 ?_
    refine tkV 1 ?_
    refine tkV 2 ?_
    refine tkV 3 ?_
    refine tkV 4 ?_
    refine tkV 5 ?_
    refine tkV 6 ?_
    refine tkV 7 ?_
    refine tkB 8 (.bool true) ?_
    refine wpAnyH_done (by kernel_rfl) ?_ _
    have q9:=(show(fun w'=>w'.cell? ⟨w.heap.size,0,none⟩=some (.int .i64 x)∧w'.cell? ⟨w1.heap.size,2,none⟩=some (.slice (some a2) n c2)∧w'.cell? (a2.add (i*2))=some (.int .i64 y)∧Q w3 w') _ by assumption).2.2.2
    clear hHeld KS
    have bx9:=(bx.on ((Q.refl wo).drew)).on (Q.refl _).drew
    have own9:=(own.on ((Q.refl wo).drew)).on (Q.refl _).drew
    have KF:Hid (∀ b,Bx b w3.heap.size 107 #[.int .u64 (xi:Nat),.string key,.slice A5 n5 c5]→Q w3 b→(fun W=>Bx W w3.heap.size 107 #[.int .u64 (xi:Nat),.string key,.slice A5 n5 c5]∧W.cell? ⟨w1.heap.size,2,none⟩=some (.slice (some a2) n c2)∧W.cell? (a2.add (i*2))=some (.int .i64 y)∧W.cell? ⟨(a2.add (i*2)).block,(a2.add (i*2)).off+1,none⟩=some (.string yd)∧Q w3 W) b):=AC fun b hb qb=>⟨hb,HB1.out _ qb,(HAT.out _ qb).1,(HAT.out _ qb).2,qb⟩
    have q9:=q9.drew
    go_wp2_with fail
    refine Aw (F:=(fun W=>Bx W w3.heap.size 107 #[.int .u64 (xi:Nat),.string key,.slice A5 n5 c5]∧W.cell? ⟨w1.heap.size,2,none⟩=some (.slice (some a2) n c2)∧W.cell? (a2.add (i*2))=some (.int .i64 y)∧W.cell? ⟨(a2.add (i*2)).block,(a2.add (i*2)).off+1,none⟩=some (.string yd)∧Q w3 W)) (st:=10) (by kernel_rfl) (KF.out _ bx9 q9) (fun hTill=>?_)
    refine AL (i:=0) (o:=_) (v:=?_) rfl (by kernel_rfl) (by kernel_rfl) (by kernel_rfl) (by kernel_rfl) (by rfl) (fun _ _ _ h=>h) (Or.inl ⟨by rfl,?_⟩) (by assumption) ?_
    rotate_left
    ·(intro wx hSw;skip;go_simp;(try with_reducible rfl))
    refine pg ?_
    refine AL (i:=1) (o:=_) (v:=?_) rfl (by kernel_rfl) (by kernel_rfl) (by kernel_rfl) (by kernel_rfl) (by rfl) (fun _ _ _ h=>h) (Or.inl ⟨by rfl,?_⟩) (by assumption) ?_
    rotate_left
    ·(intro wx hSw;have hz:=hSw.1.cell 2;simp only [List.getElem?_toArray,List.getElem?_cons_zero,List.getElem?_cons_succ] at hz;have hz1:=hSw.2.1;have hz2:=hSw.2.2.1;have hz3:=hSw.2.2.2.1;go_simp;(try with_reducible rfl))
    refine pg ?_
    refine AL (i:=2) (o:=_) (v:=?_) rfl (by kernel_rfl) (by kernel_rfl) (by kernel_rfl) (by kernel_rfl) (by rfl) (fun _ _ _ h=>h) (Or.inl ⟨by rfl,?_⟩) (by assumption) ?_
    rotate_left
    ·(intro wx hSw;skip;go_simp;(try with_reducible rfl))
    refine pg ?_
    refine AL (i:=3) (o:=_) (v:=?_) rfl (by kernel_rfl) (by kernel_rfl) (by kernel_rfl) (by kernel_rfl) (by rfl) (fun _ _ _ h=>h) (Or.inl ⟨by rfl,?_⟩) (by assumption) ?_
    rotate_left
    ·(intro wx hSw;have hz:=hSw.1.cell 2;simp only [List.getElem?_toArray,List.getElem?_cons_zero,List.getElem?_cons_succ] at hz;have hz1:=hSw.2.1;have hz2:=hSw.2.2.1;have hz3:=hSw.2.2.2.1;go_simp;(try with_reducible rfl))
    refine pg ?_
    refine AL (i:=4) (o:=_) (v:=?_) rfl (by kernel_rfl) (by kernel_rfl) (by kernel_rfl) (by kernel_rfl) (by rfl) (fun _ _ _ h=>h) (Or.inl ⟨by rfl,?_⟩) (by assumption) ?_
    rotate_left
    ·(intro wx hSw;skip;go_simp;(try with_reducible rfl))
    refine pg ?_
    refine AL (i:=5) (o:=_) (v:=?_) rfl (by kernel_rfl) (by kernel_rfl) (by kernel_rfl) (by kernel_rfl) (by rfl) (fun _ _ _ h=>h) (Or.inl ⟨by rfl,?_⟩) (by assumption) ?_
    rotate_left
    ·(intro wx hSw;skip;go_simp;(try with_reducible rfl))
    refine pg ?_
    refine AL (i:=6) (o:=_) (v:=?_) rfl (by kernel_rfl) (by kernel_rfl) (by kernel_rfl) (by kernel_rfl) (by rfl) (fun _ _ _ h=>h) (Or.inl ⟨by rfl,?_⟩) (by assumption) ?_
    rotate_left
    ·(intro wx hSw;have hz:=hSw.1.cell 2;simp only [List.getElem?_toArray,List.getElem?_cons_zero,List.getElem?_cons_succ] at hz;have hz1:=hSw.2.1;have hz2:=hSw.2.2.1;have hz3:=hSw.2.2.2.1;go_simp;(try with_reducible rfl))
    refine pg ?_
    refine Af (i:=7) (o:=_) (by kernel_rfl) rfl (fun K hK=>?_)
    go_simp
    have q11:=q9.alloc (.cells #[.int .i64 y,.string yd] 64)
    have bx11:=bx9.alloc (.cells #[.int .i64 y,.string yd] 64)
    have own11:=own9.on ((Q.refl _).alloc (.cells #[.int .i64 y,.string yd] 64))
    refine hK.out _ _ (KF.out _ bx11 q11) (fun hTill=>?_)
    clear hK K
    refine pg ?_
    refine Af (i:=8) (o:=_) (by kernel_rfl) rfl (fun K hK=>?_)
    rw [if_pos (by rfl)]
    refine Ce _ _ _ 105 Tryz.underlying105 rfl (w3.heap.size+1) _ _ _ ⟨y,yd⟩ rfl rfl (Bo _ ⟨y,yd⟩ _) own11 ?hb ?hl ?_
    case hb=>have h5:=bx9.lt;have h6:=bx.lt;simp;omega
    case hl=>omega
    intro v8 w8 o8 g8
    have q12:Q w3 w8:=q11.grown g8 (by have h5:=bx9.lt;have h6:=bx.lt;simp;omega) (fun k hk=>Nat.le_of_succ_le (World.ownsRow.lt own11 k hk).1)
    have bx12:=bx11.same (g8.block _ bx11.lt (fun e=>by have:=(World.ownsRow.lt own11 _ e.symm).1;omega))
    obtain⟨A8,n8,c8,rfl⟩:∃ A n c,v8=.slice A n c:=by obtain⟨A,c,e⟩:=o8.form;exact⟨A,_,c,e⟩
    refine hK.out _ _ (KF.out _ bx12 q12) (fun hTill=>?_)
    clear hK K
    refine pg ?_
    have z2:=bx12.cell 2
    have zf:=bx12.frozen 2
    simp only [List.getElem?_toArray,List.getElem?_cons_zero,List.getElem?_cons_succ] at z2
    refine AL (i:=9) (o:=_) (v:=?_) rfl (by kernel_rfl) (by kernel_rfl) (by kernel_rfl) (by kernel_rfl) (by rfl) (fun _ _ _ h=>h) (Or.inl ⟨by rfl,?_⟩) (by assumption) ?_
    rotate_left
    ·(intro wx hSw;skip;go_simp;(try with_reducible rfl))
    refine pg ?_
    refine Ah (i:=10) (o:=_) (by kernel_rfl) rfl (by rfl) (fun K hK=>?_)
    go_simp
    refine hK.out _ _ ?_
    clear hK K
    refine pg ?_
    refine BR (by kernel_rfl) ?_ _
    have bxE:=bx12.set 2 (.slice A8 n8 c8)
    have oE:OwnP (w3.heap.size+1) _ _ _:=AS (b:=w3.heap.size) (i:=2) (u:=.slice A8 n8 c8) o8 (by omega)
    have qE:=Q.set q12 (Nat.le_refl _) (k:=2) (.slice A8 n8 c8)
    generalize w8.setCell ⟨w3.heap.size,2,none⟩ (.slice A8 n8 c8)=wE at bxE oE qE ⊢
    clear KF bx9 own9 q9 bx11 own11 q11 o8 g8 q12 bx12 z2 zf
    go_wp2_with fail
    go_roundw
    case rel=>exact⟨i+1,_,_,_,_,by omega,by go_num,by simp;omega,bxE,oE,qE,HW⟩
    case measure=>simp [intOf];omega
   ·have HW:=HNO hxy
    clear HYES HNO
    go_wp2_with fail
    refine wp_region_held_drew (S:=(fun w'=>w'.cell? ⟨w.heap.size,0,none⟩=some (.int .i64 x)∧w'.cell? ⟨w1.heap.size,2,none⟩=some (.slice (some a2) n c2)∧w'.cell? (a2.add (i*2))=some (.int .i64 y)∧Q w3 w')) (by kernel_rfl) (KS.out _ q.drew) (fun hHeld=>?_)
    refine tkV 0 ?_
    refine tkV 1 ?_
    refine tkV 2 ?_
    refine tkV 3 ?_
    refine tkV 4 ?_
    refine tkV 5 ?_
    refine tkV 6 ?_
    refine tkV 7 ?_
    refine tkB 8 (.bool false) ?_
    refine wpAnyH_done (by kernel_rfl) ?_ _
    have q9:=(show(fun w'=>w'.cell? ⟨w.heap.size,0,none⟩=some (.int .i64 x)∧w'.cell? ⟨w1.heap.size,2,none⟩=some (.slice (some a2) n c2)∧w'.cell? (a2.add (i*2))=some (.int .i64 y)∧Q w3 w') _ by assumption).2.2.2
    clear hHeld KS
    have bx9:=bx.on ((Q.refl wo).drew)
    have own9:=own.on ((Q.refl wo).drew)
    go_wp2_with fail
    go_roundw
    case rel=>exact⟨i+1,_,_,_,_,by omega,by go_num,by omega,bx9,own9,q9,HW⟩
    case measure=>simp [intOf];omega
  ·have hilt:¬ (i:Int)<(n:Int):=by omega
   have HYF:Hid (Y=L.filter (fun y=>decide (y.n<x))):=AC (by rw [HY.out,HZE.out,List.take_of_length_le (by have:=HN.out;omega)];rfl)
   have x2:=bx.cell 2
   simp only [List.getElem?_toArray,List.getElem?_cons_zero,List.getElem?_cons_succ] at x2
   have bx9:=bx.alloc (.cells #[.int .i64 x,.string d] 64)
   have own9:=own.on ((Q.refl _).alloc (.cells #[.int .i64 x,.string d] 64))
   have q9:=q.alloc (.cells #[.int .i64 x,.string d] 64)
   have h5:=bx.lt
   go_wp2_with (at_builtin;refine D0 _ rfl _ _ 105 64 Tryz.underlying105 rfl (w3.heap.size+1) wo.heap.size _ Y ⟨x,d⟩ rfl rfl (Bo wo ⟨x,d⟩ 64) own9 ?hb ?hl ?_;(case hb=>simp;omega);(case hl=>omega);intro v8 w8 o8 g8;have q8:Q w3 w8:=q9.grown g8 (by simp;omega) (fun k hk=>Nat.le_of_succ_le (World.ownsRow.lt own9 k hk).1);have bx8:=bx9.same (g8.block _ bx9.lt (fun e=>by have:=(World.ownsRow.lt own9 _ e.symm).1;omega));have z2:=bx8.cell 2;have zf:=bx8.frozen 2;simp only [List.getElem?_toArray,List.getElem?_cons_zero,List.getElem?_cons_succ] at z2;obtain⟨A8,n8,c8,rfl⟩:∃ A n c,v8=.slice A n c:=(by obtain⟨A,c,e⟩:=o8.form;exact⟨A,_,c,e⟩))
   have bxE:=bx8.set 2 (.slice A8 n8 c8)
   have oE:OwnP (w3.heap.size+1) _ _ _:=AS (b:=w3.heap.size) (i:=2) (u:=.slice A8 n8 c8) o8 (by omega)
   have qE:=Q.set q8 (Nat.le_refl _) (k:=2) (.slice A8 n8 c8)
   generalize w8.setCell ⟨w3.heap.size,2,none⟩ (.slice A8 n8 c8)=wE at bxE oE qE ⊢
   have hlen2:(Y ++ [(⟨x,d⟩:Prt)]).length≤1001+0:=by rw [List.length_append,List.length_singleton];omega
   obtain⟨Z2,hZ2⟩:∃ Z2,Z2=Y ++ [(⟨x,d⟩:Prt)]:=⟨_,rfl⟩
   rw [← hZ2] at oE hlen2
   have HZ2:Hid (Z2=L.filter (fun y=>decide (y.n<x)) ++ [⟨x,d⟩]):=AC (by rw [hZ2,HYF.out])
   clear bx9 own9 q9 o8 g8 q8 bx8 z2 zf bx own q HY HYF hYl hil hlt e0 e1 e2 x2 h5 hZ2
   have AT0:=And.intro hlen2 (And.intro bxE (And.intro oE qE))
   obtain⟨Z,hZ⟩:∃ Z,Z=Z2:=⟨_,rfl⟩
   have HZ0:Hid (Z2=Z++(L.take 0).filter (fun y=>decide (x<y.n))):=AC (by rw [hZ];simp)
   have HZE:Hid (Z=L.filter (fun y=>decide (y.n<x)) ++ [⟨x,d⟩]):=AC (by rw [hZ,HZ2.out])
   clear hlen2 bxE oE qE hZ HZ2
   go_wp2_with fail
   go_loopw [13] (fun I wr=>∃ (i:Nat) (A5:Option Addr) (n5 c5:Nat) (Y:List Prt),i≤n∧I=.int .i64 i∧Y.length≤1001+i∧Bx wr w3.heap.size 107 #[.int .u64 (xi:Nat),.string key,.slice A5 n5 c5]∧OwnP (w3.heap.size+1) wr (.slice A5 n5 c5) Y∧Q w3 wr∧Hid (Y=Z++(L.take i).filter (fun y=>decide (x<y.n)))) (fun I _=>n - (intOf I).toNat)
   case atStart=>exact⟨0,_,_,_,_,Nat.zero_le _,rfl,AT0.1,AT0.2.1,AT0.2.2.1,AT0.2.2.2,HZ0⟩
   case round=>
    clear AT0 HZ0
    obtain⟨i,A5,n5,c5,Y,hil,rfl,hYl,bx,own,q,HY⟩:=hrel
    obtain⟨wo,hwo⟩:∃ x,x=wr:=⟨_,rfl⟩
    subst hwo
    obtain⟨e0,e1⟩:=HB0.out _ q
    have e2:=HB1.out _ q
    by_cases hlt:i<n
    ·have hltL:i<L.length:=by have:=HN.out;omega
     obtain⟨a2,c',hv,ha,-,hat⟩:=HP.out.pick i hltL
     injection hv with e3 e4 e5
     subst e3 e5
     have hilt:(i:Int)<(n:Int):=by omega
     have HYES:x<L[i].n→Hid (Y ++ [L[i]]=Z++(L.take (i+1)).filter (fun y=>decide (x<y.n))):=fun h=>AC (by rw [HY.out,Rm hltL h,List.append_assoc])
     have HNO:¬ (x<L[i].n)→Hid (Y=Z++(L.take (i+1)).filter (fun y=>decide (x<y.n))):=fun h=>AC (by rw [HY.out,TJ hltL h])
     obtain⟨⟨y,yd⟩,hy⟩:∃ y,y=L[i]'hltL:=⟨_,rfl⟩
     rw [← hy] at hat HYES HNO
     simp only at HYES HNO
     have HAT:Hid (∀ b,Q w3 b→b.cell? (a2.add (i*2))=some (.int .i64 y)∧b.cell? ⟨(a2.add (i*2)).block,(a2.add (i*2)).off+1,none⟩=some (.string yd)):=AC fun b qb=>hat b qb
     clear hat e4 hy
     have KS:Hid (∀ b,Q w3 b→(fun w'=>w'.cell? ⟨w.heap.size,0,none⟩=some (.int .i64 x)∧w'.cell? ⟨w1.heap.size,2,none⟩=some (.slice (some a2) n c2)∧w'.cell? (a2.add (i*2))=some (.int .i64 y)∧Q w3 w') b):=AC fun b qb=>⟨(HB0.out _ qb).1,HB1.out _ qb,(HAT.out _ qb).1,qb⟩
     by_cases hxy:x<y
     ·have HW:=HYES hxy
      clear HYES HNO
      go_wp2_with fail
      refine wp_region_held_drew (S:=(fun w'=>w'.cell? ⟨w.heap.size,0,none⟩=some (.int .i64 x)∧w'.cell? ⟨w1.heap.size,2,none⟩=some (.slice (some a2) n c2)∧w'.cell? (a2.add (i*2))=some (.int .i64 y)∧Q w3 w')) (by kernel_rfl) (KS.out _ q.drew) (fun hHeld=>?_)
      refine tkV 0 ?_
      refine tkV 1 ?_
      refine tkV 2 ?_
      refine tkV 3 ?_
      refine tkV 4 ?_
      refine tkV 5 ?_
      refine tkV 6 ?_
      refine tkV 7 ?_
      refine tkB 8 (.bool true) ?_
      refine wpAnyH_done (by kernel_rfl) ?_ _
      have q9:=(show(fun w'=>w'.cell? ⟨w.heap.size,0,none⟩=some (.int .i64 x)∧w'.cell? ⟨w1.heap.size,2,none⟩=some (.slice (some a2) n c2)∧w'.cell? (a2.add (i*2))=some (.int .i64 y)∧Q w3 w') _ by assumption).2.2.2
      clear hHeld KS
      have bx9:=(bx.on ((Q.refl wo).drew)).on (Q.refl _).drew
      have own9:=(own.on ((Q.refl wo).drew)).on (Q.refl _).drew
      have KF:Hid (∀ b,Bx b w3.heap.size 107 #[.int .u64 (xi:Nat),.string key,.slice A5 n5 c5]→Q w3 b→(fun W=>Bx W w3.heap.size 107 #[.int .u64 (xi:Nat),.string key,.slice A5 n5 c5]∧W.cell? ⟨w1.heap.size,2,none⟩=some (.slice (some a2) n c2)∧W.cell? (a2.add (i*2))=some (.int .i64 y)∧W.cell? ⟨(a2.add (i*2)).block,(a2.add (i*2)).off+1,none⟩=some (.string yd)∧Q w3 W) b):=AC fun b hb qb=>⟨hb,HB1.out _ qb,(HAT.out _ qb).1,(HAT.out _ qb).2,qb⟩
      have q9:=q9.drew
      go_wp2_with fail
      refine Aw (F:=(fun W=>Bx W w3.heap.size 107 #[.int .u64 (xi:Nat),.string key,.slice A5 n5 c5]∧W.cell? ⟨w1.heap.size,2,none⟩=some (.slice (some a2) n c2)∧W.cell? (a2.add (i*2))=some (.int .i64 y)∧W.cell? ⟨(a2.add (i*2)).block,(a2.add (i*2)).off+1,none⟩=some (.string yd)∧Q w3 W)) (st:=10) (by kernel_rfl) (KF.out _ bx9 q9) (fun hTill=>?_)
      refine AL (i:=0) (o:=_) (v:=?_) rfl (by kernel_rfl) (by kernel_rfl) (by kernel_rfl) (by kernel_rfl) (by rfl) (fun _ _ _ h=>h) (Or.inl ⟨by rfl,?_⟩) (by assumption) ?_
      rotate_left
      ·(intro wx hSw;skip;go_simp;(try with_reducible rfl))
      refine pg ?_
      refine AL (i:=1) (o:=_) (v:=?_) rfl (by kernel_rfl) (by kernel_rfl) (by kernel_rfl) (by kernel_rfl) (by rfl) (fun _ _ _ h=>h) (Or.inl ⟨by rfl,?_⟩) (by assumption) ?_
      rotate_left
      ·(intro wx hSw;have hz:=hSw.1.cell 2;simp only [List.getElem?_toArray,List.getElem?_cons_zero,List.getElem?_cons_succ] at hz;have hz1:=hSw.2.1;have hz2:=hSw.2.2.1;have hz3:=hSw.2.2.2.1;go_simp;(try with_reducible rfl))
      refine pg ?_
      refine AL (i:=2) (o:=_) (v:=?_) rfl (by kernel_rfl) (by kernel_rfl) (by kernel_rfl) (by kernel_rfl) (by rfl) (fun _ _ _ h=>h) (Or.inl ⟨by rfl,?_⟩) (by assumption) ?_
      rotate_left
      ·(intro wx hSw;skip;go_simp;(try with_reducible rfl))
      refine pg ?_
      refine AL (i:=3) (o:=_) (v:=?_) rfl (by kernel_rfl) (by kernel_rfl) (by kernel_rfl) (by kernel_rfl) (by rfl) (fun _ _ _ h=>h) (Or.inl ⟨by rfl,?_⟩) (by assumption) ?_
      rotate_left
      ·(intro wx hSw;have hz:=hSw.1.cell 2;simp only [List.getElem?_toArray,List.getElem?_cons_zero,List.getElem?_cons_succ] at hz;have hz1:=hSw.2.1;have hz2:=hSw.2.2.1;have hz3:=hSw.2.2.2.1;go_simp;(try with_reducible rfl))
      refine pg ?_
      refine AL (i:=4) (o:=_) (v:=?_) rfl (by kernel_rfl) (by kernel_rfl) (by kernel_rfl) (by kernel_rfl) (by rfl) (fun _ _ _ h=>h) (Or.inl ⟨by rfl,?_⟩) (by assumption) ?_
      rotate_left
      ·(intro wx hSw;skip;go_simp;(try with_reducible rfl))
      refine pg ?_
      refine AL (i:=5) (o:=_) (v:=?_) rfl (by kernel_rfl) (by kernel_rfl) (by kernel_rfl) (by kernel_rfl) (by rfl) (fun _ _ _ h=>h) (Or.inl ⟨by rfl,?_⟩) (by assumption) ?_
      rotate_left
      ·(intro wx hSw;skip;go_simp;(try with_reducible rfl))
      refine pg ?_
      refine AL (i:=6) (o:=_) (v:=?_) rfl (by kernel_rfl) (by kernel_rfl) (by kernel_rfl) (by kernel_rfl) (by rfl) (fun _ _ _ h=>h) (Or.inl ⟨by rfl,?_⟩) (by assumption) ?_
      rotate_left
      ·(intro wx hSw;have hz:=hSw.1.cell 2;simp only [List.getElem?_toArray,List.getElem?_cons_zero,List.getElem?_cons_succ] at hz;have hz1:=hSw.2.1;have hz2:=hSw.2.2.1;have hz3:=hSw.2.2.2.1;go_simp;(try with_reducible rfl))
      refine pg ?_
      refine Af (i:=7) (o:=_) (by kernel_rfl) rfl (fun K hK=>?_)
      go_simp
      have q11:=q9.alloc (.cells #[.int .i64 y,.string yd] 64)
      have bx11:=bx9.alloc (.cells #[.int .i64 y,.string yd] 64)
      have own11:=own9.on ((Q.refl _).alloc (.cells #[.int .i64 y,.string yd] 64))
      refine hK.out _ _ (KF.out _ bx11 q11) (fun hTill=>?_)
      clear hK K
      refine pg ?_
      refine Af (i:=8) (o:=_) (by kernel_rfl) rfl (fun K hK=>?_)
      rw [if_pos (by rfl)]
      refine Ce _ _ _ 105 Tryz.underlying105 rfl (w3.heap.size+1) _ _ _ ⟨y,yd⟩ rfl rfl (Bo _ ⟨y,yd⟩ _) own11 ?hb ?hl ?_
      case hb=>have h5:=bx9.lt;have h6:=bx.lt;simp;omega
      case hl=>omega
      intro v8 w8 o8 g8
      have q12:Q w3 w8:=q11.grown g8 (by have h5:=bx9.lt;have h6:=bx.lt;simp;omega) (fun k hk=>Nat.le_of_succ_le (World.ownsRow.lt own11 k hk).1)
      have bx12:=bx11.same (g8.block _ bx11.lt (fun e=>by have:=(World.ownsRow.lt own11 _ e.symm).1;omega))
      obtain⟨A8,n8,c8,rfl⟩:∃ A n c,v8=.slice A n c:=by obtain⟨A,c,e⟩:=o8.form;exact⟨A,_,c,e⟩
      refine hK.out _ _ (KF.out _ bx12 q12) (fun hTill=>?_)
      clear hK K
      refine pg ?_
      have z2:=bx12.cell 2
      have zf:=bx12.frozen 2
      simp only [List.getElem?_toArray,List.getElem?_cons_zero,List.getElem?_cons_succ] at z2
      refine AL (i:=9) (o:=_) (v:=?_) rfl (by kernel_rfl) (by kernel_rfl) (by kernel_rfl) (by kernel_rfl) (by rfl) (fun _ _ _ h=>h) (Or.inl ⟨by rfl,?_⟩) (by assumption) ?_
      rotate_left
      ·(intro wx hSw;skip;go_simp;(try with_reducible rfl))
      refine pg ?_
      refine Ah (i:=10) (o:=_) (by kernel_rfl) rfl (by rfl) (fun K hK=>?_)
      go_simp
      refine hK.out _ _ ?_
      clear hK K
      refine pg ?_
      refine BR (by kernel_rfl) ?_ _
      have bxE:=bx12.set 2 (.slice A8 n8 c8)
      have oE:OwnP (w3.heap.size+1) _ _ _:=AS (b:=w3.heap.size) (i:=2) (u:=.slice A8 n8 c8) o8 (by omega)
      have qE:=Q.set q12 (Nat.le_refl _) (k:=2) (.slice A8 n8 c8)
      generalize w8.setCell ⟨w3.heap.size,2,none⟩ (.slice A8 n8 c8)=wE at bxE oE qE ⊢
      clear KF bx9 own9 q9 bx11 own11 q11 o8 g8 q12 bx12 z2 zf
      go_wp2_with fail
      go_roundw
      case rel=>exact⟨i+1,_,_,_,_,by omega,by go_num,by simp;omega,bxE,oE,qE,HW⟩
      case measure=>simp [intOf];omega
     ·have HW:=HNO hxy
      clear HYES HNO
      go_wp2_with fail
      refine wp_region_held_drew (S:=(fun w'=>w'.cell? ⟨w.heap.size,0,none⟩=some (.int .i64 x)∧w'.cell? ⟨w1.heap.size,2,none⟩=some (.slice (some a2) n c2)∧w'.cell? (a2.add (i*2))=some (.int .i64 y)∧Q w3 w')) (by kernel_rfl) (KS.out _ q.drew) (fun hHeld=>?_)
      refine tkV 0 ?_
      refine tkV 1 ?_
      refine tkV 2 ?_
      refine tkV 3 ?_
      refine tkV 4 ?_
      refine tkV 5 ?_
      refine tkV 6 ?_
      refine tkV 7 ?_
      refine tkB 8 (.bool false) ?_
      refine wpAnyH_done (by kernel_rfl) ?_ _
      have q9:=(show(fun w'=>w'.cell? ⟨w.heap.size,0,none⟩=some (.int .i64 x)∧w'.cell? ⟨w1.heap.size,2,none⟩=some (.slice (some a2) n c2)∧w'.cell? (a2.add (i*2))=some (.int .i64 y)∧Q w3 w') _ by assumption).2.2.2
      clear hHeld KS
      have bx9:=bx.on ((Q.refl wo).drew)
      have own9:=own.on ((Q.refl wo).drew)
      go_wp2_with fail
      go_roundw
      case rel=>exact⟨i+1,_,_,_,_,by omega,by go_num,by omega,bx9,own9,q9,HW⟩
      case measure=>simp [intOf];omega
    ·have hilt:¬ (i:Int)<(n:Int):=by omega
     have HYF:Hid (Y=Aj L ⟨x,d⟩):=AC (by rw [HY.out,HZE.out,List.take_of_length_le (by have:=HN.out;omega)];rfl)
     have hYn:Y.length≤2001:=by omega
     obtain⟨x0,x1,x2⟩:wo.cell? ⟨w3.heap.size,0,none⟩=some (.int .u64 (xi:Nat))∧wo.cell? ⟨w3.heap.size,1,none⟩=some (.string key)∧wo.cell? ⟨w3.heap.size,2,none⟩=some (.slice A5 n5 c5):=⟨bx.cell 0,bx.cell 1,bx.cell 2⟩
     have hn5:n5=Y.length:=by obtain⟨A,c,e⟩:=own.form;injection e
     clear HY hil hlt
     by_cases h30:30<Y.length
     ·have HV:=AC (HK1.out (by rw [HYF.out] at h30;exact h30))
      have h30':(30:Int)<(n5:Int):=by omega
      clear h30 hn5
      go_wp2
      refine bodyPost_ret (v:=.tuple #[.slice none 0 0,.int .u32 0,.int .i64 6]) (by simp [results,Tryz.results87,go_sem]) rfl ⟨_,(by obtain⟨h1,h2,h3⟩:=HV.out;rw [h2,h3];rfl),(by rw [HV.out.1];exact Upls.nil _ _),QW.out.trans q⟩
     ·have HV:=AC (HK0.out (by rw [HYF.out] at h30;exact h30))
      have h30':¬ (30:Int)<(n5:Int):=by omega
      have hY30:Y.length≤30:=by omega
      have X9:Hid (∀ b,Q wo b→DC wo.heap.size b ((⟨xi,key,Y⟩:Upl),.slice A5 n5 c5)):=AC fun b qb=>⟨⟨hoX.1,hoX.2.1,by unfold maxLen;show Y.length≤_;omega⟩,(by rw [HYF.out];exact EB HOKL.out hp),by unfold maxLen;show Y.length≤_;omega,.inl ((own.read (by rw [HYF.out];exact EB HOKL.out hp)).below qb)⟩
      obtain⟨N,hNl⟩:∃ N,l.length=N:=⟨_,rfl⟩
      have HNl:=AC hNl
      have HT3:Hid (Upls wo wo.heap.size (.slice Av l.length cv) l):=AC (HT.out.on (QW.out.trans q))
      rw [hNl] at HT3 hl ⊢
      have qb:=AC (QW.out.trans q)
      have HY9:Hid (⟨xi,key,Y⟩=(⟨xi,key,Aj L ⟨x,d⟩⟩:Upl)):=AC (by rw [HYF.out])
      have HBX:Hid (∀ b,Q wo b→b.cell? ⟨w3.heap.size,0,none⟩=some (.int .u64 (xi:Nat))∧b.cell? ⟨w3.heap.size,1,none⟩=some (.string key)∧b.cell? ⟨w3.heap.size,2,none⟩=some (.slice A5 n5 c5)):=AC fun b q=>⟨(bx.on q).cell 0,(bx.on q).cell 1,(bx.on q).cell 2⟩
      have HB3:Hid (∀ b,Q wo b→b.cell? ⟨w.heap.size,1,none⟩=some (.string d)):=AC fun b qb'=>(HB0.out _ (q.trans qb')).2
      clear h30 hn5 own bx q hNl hYn hYl
      go_wp2_with fail
      go_loopw [14,15] (fun O I wr=>∃ i:Nat,i≤N∧I=.int .i64 i∧OwnU wo.heap.size wr O ((l.take i).map (fun y=>if y.id=xi then⟨xi,key,Y⟩ else y))∧Q wo wr) (fun _ I _=>N - (intOf I).toNat)
      case atStart=>exact⟨0,Nat.zero_le _,rfl,OwnU.nil _ _,Q.refl _⟩
      case round=>
       obtain⟨i,hil,rfl,hown,q⟩:=hrel
       by_cases hlt:i<N
       ·have hltl:i<l.length:=by have:=HNl.out;omega
        obtain⟨a,c',hv,ha,A7,c7,hps,hat⟩:=HT3.out.pick i hltl
        injection hv with f1 f2 f3
        subst f1 f3
        have qww:=q
        obtain⟨d0,d1,d2⟩:=hat _ qww
        have hilt:(i:Int)<(N:Int):=by omega
        have hlen:((l.take i).map (fun y=>if y.id=xi then(⟨xi,key,Y⟩:Upl) else y)).length≤1000:=by rw [List.length_map,List.length_take];omega
        have hs:=qww.size
        have MY:l[i].id=xi→Hid ((l.take i).map (fun y=>if y.id=xi then(⟨xi,key,Y⟩:Upl) else y) ++ [⟨xi,key,Y⟩]=(l.take (i+1)).map (fun y=>if y.id=xi then(⟨xi,key,Y⟩:Upl) else y)):=fun h=>AC (by rw [List.take_succ_eq_append_getElem hltl,List.map_append,List.map_singleton,if_pos h])
        have MN:l[i].id≠xi→Hid ((l.take i).map (fun y=>if y.id=xi then(⟨xi,key,Y⟩:Upl) else y) ++ [l[i]]=(l.take (i+1)).map (fun y=>if y.id=xi then(⟨xi,key,Y⟩:Upl) else y)):=fun h=>AC (by rw [List.take_succ_eq_append_getElem hltl,List.map_append,List.map_singleton,if_neg h])
        have ONEI:=fun b (qq:Q wo b)=>HT3.out.one qq i hltl hps
        obtain⟨T,hT⟩:∃ T,T=(l.take i).map (fun y=>if y.id=xi then(⟨xi,key,Y⟩:Upl) else y):=⟨_,rfl⟩
        rw [← hT] at hown hlen MY MN
        obtain⟨y,hy⟩:∃ y,y=l[i]:=⟨_,rfl⟩
        rw [← hy] at d0 d1 d2 MY MN ONEI
        clear hat hy hT f2 hps
        by_cases hyi:y.id=xi
        ·have hyi':(y.id:Int)=(xi:Int):=by omega
         have HW:=MY hyi
         obtain⟨x0,x1,x2⟩:=HBX.out _ q
         have q3:=(Q.refl wr).alloc (.cells #[.int .u64 (xi:Nat),.string key,.slice A5 n5 c5] 107)
         have h0:=hown.on q3 hs
         have o1:=AC (X9.out _ (q.trans q3))
         clear MY MN ONEI
         go_wp2_with (at_builtin;refine Am _ rfl _ _ 23 Tryz.underlying23 rfl wo.heap.size wr.heap.size _ _ ((⟨xi,key,Y⟩:Upl),.slice A5 n5 c5) rfl rfl (An wr ((⟨xi,key,Y⟩:Upl),.slice A5 n5 c5) 107) h0 o1.out ?hb ?hl ?_;(case hb=>simp;omega);(case hl=>omega);intro v5 w5 o5 g5)
         have q5:Q wo w5:=Below.trans (Q.trans qww q3) g5
         go_roundw
         case rel=>exact⟨i+1,by omega,by go_num,by rw [← HW.out];exact o5,q5⟩
         case measure=>simp [intOf];omega
        ·have hyi':¬ (y.id:Int)=(xi:Int):=by omega
         have HW:=MN hyi
         have q3:=(Q.refl wr).alloc (.cells #[.int .u64 (y.id:Nat),.string y.key,.slice A7 y.L.length c7] 107)
         have h0:=hown.on q3 hs
         have o1:=AC (ONEI _ (qww.trans q3))
         clear MY MN ONEI
         go_wp2_with (at_builtin;refine Am _ rfl _ _ 23 Tryz.underlying23 rfl wo.heap.size wr.heap.size _ _ (y,.slice A7 y.L.length c7) rfl rfl (An wr (y,.slice A7 y.L.length c7) 107) h0 o1.out ?hb ?hl ?_;(case hb=>simp;omega);(case hl=>omega);intro v5 w5 o5 g5)
         have q5:Q wo w5:=Below.trans (Q.trans qww q3) g5
         go_roundw
         case rel=>exact⟨i+1,by omega,by go_num,by rw [← HW.out];exact o5,q5⟩
         case measure=>simp [intOf];omega
       ·have hilt:¬ (i:Int)<(N:Int):=by omega
        have p1:=HB3.out _ q
        have HE:Hid ((l.take i).map (fun y=>if y.id=xi then(⟨xi,key,Y⟩:Upl) else y)=r):=AC (by rw [HV.out.1,List.take_of_length_le (by have:=HNl.out;omega),HYF.out])
        rw [HE.out] at hown
        obtain⟨A9,c9,rfl⟩:=hown.form
        obtain⟨n9,hn9⟩:∃ n,r.length=n:=⟨_,rfl⟩
        rw [hn9] at hown ⊢
        go_wp2_with fail
        refine(O.out _).mono ?_
        rintro e w9 ⟨rfl,rfl⟩
        go_wp2
        refine bodyPost_ret (v:=.tuple #[.slice A9 n9 c9,.int .u32 (crc (bl d):Nat),.int .i64 0]) (by simp [results,Tryz.results87,go_sem]) rfl ⟨_,(by obtain⟨h1,h2,h3⟩:=HV.out;rw [h2,h3];rfl),hown.read q.size,qb.out.trans q⟩
end
section
open Go.ChangeShapes Go.WideShapes Go.ChangeAt Go.RowKit
theorem ME(l:List Upl)(v:Value)(id:Nat)(p:Prt)(w:World)(r:List Upl)(t e:Nat)(h:LayC l id p r t e)(hs:smL l)(ht:Upls w w.heap.size v l)
  (hno:¬ (Ab l∧Cd p=true)∨(∀ j (hl:j<l.length),l[j].id≠id)) :
  Calls Tryz.prog 87 #[v,.int .u64 (id:Nat),prt p] w fun z w'=>∃ u,z=.returned (.tuple #[u,.int .u32 (t:Nat),.int .i64 (e:Nat)])∧Upls w' w'.heap.size u r∧Q w w':=by
 have M:=AC fun d=>Ee p d
 have q00:=(Q.refl w).alloc (.cells #[.int .i64 p.n,.string p.data] 64)
 obtain⟨x,fe,hx⟩:=Ji l id
 have F:=AC (Cs l v id _ x fe hx hs (ht.on q00))
 simp only [upl] at F
 obtain⟨A,c,rfl⟩:=ht.form
 obtain⟨N,hN⟩:∃ N,l.length=N:=⟨_,rfl⟩
 have HK:Hid ((fe=1∧r=[]∧t=0∧e=1)∨(fe≠1∧Cd p=false∧r=[]∧t=0∧e=1)∨(fe=4∧Cd p=true∧r=[]∧t=0∧e=4)):=AC (by
  cases hx with
  | arg h1=>exact .inl ⟨rfl,Is h fun k=>h1 k.1⟩
  | none h1 h2=>
    cases hm:Cd p with
    | false=>exact .inr (.inl ⟨by decide,rfl,Is h fun k=>by rw [hm] at k;simp at k⟩)
    | true=>exact .inr (.inr ⟨rfl,rfl,Pe h h1 hm h2⟩)
  | yes i hi h1 h2 h3=>
    cases hm:Cd p with
    | false=>exact .inr (.inl ⟨by decide,rfl,Is h fun k=>by rw [hm] at k;simp at k⟩)
    | true=>
      rcases hno with k | k
      ·exact absurd ⟨h1,hm⟩ k
      ·exact absurd h2 (k i hi))
 obtain⟨y,d⟩:=p
 rw [prt] at M ⊢
 simp only at M F q00 ⊢
 have q01:=AC fun b (qb:Q (w.alloc (.cells #[.int .i64 y,.string d] 64)) b)=>Ak qb
 rw [hN] at F ⊢
 clear h hs ht hno hx hN
 rcases HK.out with⟨rfl,rfl,rfl,rfl⟩ | ⟨hf,hm,rfl,rfl,rfl⟩ | ⟨rfl,hm,rfl,rfl,rfl⟩
 ·clear HK
  go_enter Tryz.func87,Tryz.ntmps87
  go_wp2_with fail
  refine(F.out).mono ?_
  rintro e w1 ⟨u,rfl,hu,q1⟩
  obtain⟨A1,c1,rfl⟩:=hu.form
  have q2:=q00.trans (q1.alloc (.cells #[.int .u64 (x.id:Nat),.string x.key,.slice A1 x.L.length c1] 107))
  clear hu
  go_wp2
  refine bodyPost_ret (v:=.tuple #[.slice none 0 0,.int .u32 0,.int .i64 1]) (by simp [results,Tryz.results87,go_sem]) rfl ⟨_,rfl,Upls.nil _ _,q2⟩
 ·clear HK
  rw [hm] at M
  have hf1:¬ (fe:Int)=1:=by omega
  clear hf hm
  go_enter Tryz.func87,Tryz.ntmps87
  go_wp2_with fail
  refine(F.out).mono ?_
  rintro e w1 ⟨u,rfl,hu,q1⟩
  obtain⟨A1,c1,rfl⟩:=hu.form
  have q2:=q1.alloc (.cells #[.int .u64 (x.id:Nat),.string x.key,.slice A1 x.L.length c1] 107)
  obtain⟨b0,b1⟩:=q01.out _ q2
  clear hu
  go_wp2_with fail
  refine(M.out _).mono ?_
  rintro e w3 ⟨rfl,q3⟩
  go_wp2
  refine bodyPost_ret (v:=.tuple #[.slice none 0 0,.int .u32 0,.int .i64 1]) (by simp [results,Tryz.results87,go_sem]) rfl ⟨_,rfl,Upls.nil _ _,q00.trans (q2.trans q3)⟩
 ·clear HK
  rw [hm] at M
  clear hm
  go_enter Tryz.func87,Tryz.ntmps87
  go_wp2_with fail
  refine(F.out).mono ?_
  rintro e w1 ⟨u,rfl,hu,q1⟩
  obtain⟨A1,c1,rfl⟩:=hu.form
  have q2:=q1.alloc (.cells #[.int .u64 (x.id:Nat),.string x.key,.slice A1 x.L.length c1] 107)
  obtain⟨b0,b1⟩:=q01.out _ q2
  clear hu
  go_wp2_with fail
  refine(M.out _).mono ?_
  rintro e w3 ⟨rfl,q3⟩
  go_wp2
  refine bodyPost_ret (v:=.tuple #[.slice none 0 0,.int .u32 0,.int .i64 4]) (by simp [results,Tryz.results87,go_sem]) rfl ⟨_,rfl,Upls.nil _ _,q00.trans (q2.trans q3)⟩
theorem MG(l:List Upl)(v:Value)(id:Nat)(p:Prt)(w:World)(r:List Upl)(t e:Nat)(h:LayC l id p r t e)(hp:De p)(hs:smL l)(ht:Upls w w.heap.size v l):
  Calls Tryz.prog 87 #[v,.int .u64 (id:Nat),prt p] w fun z w'=>∃ u,z=.returned (.tuple #[u,.int .u32 (t:Nat),.int .i64 (e:Nat)])∧Upls w' w'.heap.size u r∧Q w w':=by
 by_cases hok:Ab l∧Cd p=true
 ·rcases EC l id with⟨-,k⟩ | ⟨i,hi,-,k,m⟩
  ·exact ME l v id p w r t e h hs ht (.inr k)
  ·exact MF l v id i p w r t e h hp hs ht hi hok.1 hok.2 k m
 ·exact ME l v id p w r t e h hs ht (.inl hok)
end
end Go.Proofs.YtjjlbbfhmpbneaaGreat
