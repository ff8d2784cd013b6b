/-
  Contracts of the document's Same and of the program's. The order of texts; which indices may be.
-/
import Derived.Test.YtjjlbbfhmpbneaaGreatLh
namespace Go.Proofs.YtjjlbbfhmpbneaaGreat
open Lib renaming hid → AC
set_option maxHeartbeats 16000000
set_option maxRecDepth 100000
set_option linter.unusedVariables false
set_option linter.unusedSimpArgs false
section
open Go.ChangeShapes Go.WideShapes Go.ChangeAt Go.RowKit
theorem D.step{a b c:World}(h:D a b)(k:D b c):D a c:=by
 obtain⟨m,rfl⟩:=h
 obtain⟨n,rfl⟩:=k
 exact⟨m+n,World.drewN_drewN _ _ _⟩
theorem Oz{P:Program}{f:FuncId}{args:Array Value}{w:World}{m n:Nat}{v:Value}
  (h:Calls P f args (w.drewN (m+n)) fun e w'=>e=.returned v∧D (w.drewN (m+n)) w'):Calls P f args (w.drewN (m+n)) fun e w''=>e=.returned v∧∃ k,w''=w.drewN (m+k):=
 h.mono fun _ _ ⟨he,k,hk⟩=>⟨he,n+k,by rw [hk,World.drewN_drewN,Nat.add_assoc]⟩
theorem NK{x y:Ent}(h:x.key=y.key)(k:x.L=y.L):x=y:=by
 cases x;cases y;simp only at h k;rw [h,k]
theorem NL{a b:List Ent}{i:Nat}(h:i<a.length)(k:i<b.length)(n:a[i]≠b[i]):a≠b:=by
 rintro rfl;exact n rfl
def Lz(a b:List Ent)(R:Bool):Prop:=(R=true∧a=b)∨(R=false∧a≠b)
theorem KB{a b:List Ent}{A:Bool}(h:Lz a b A)(e:a=b):A=true:=by
 rcases h with⟨h,-⟩ | ⟨-,h⟩
 ·exact h
 ·exact absurd e h
theorem Ea{a b:List Ent}{A:Bool}(h:Lz a b A)(e:a≠b):A=false:=by
 rcases h with⟨-,h⟩ | ⟨h,-⟩
 ·exact absurd h e
 ·exact h
theorem Om(a b:List Ver):∃ R,On a b R:=by
 by_cases h:a=b
 ·exact⟨true,.inl ⟨rfl,h⟩⟩
 ·exact⟨false,.inr ⟨rfl,h⟩⟩
theorem KJ(a b:List Ent)(va vb:Value)(w:World)(R:Bool)(hR:Lz a b R)(sa:By a)(sb:By b)(ha:Ents w w.heap.size va a)(hb:Ents w w.heap.size vb b):
  Calls Tryz.prog 42 #[va,vb] w fun e w'=>e=.returned (.bool R)∧D w w':=by
 have HA:=AC ha
 have HB:=AC hb
 have HR:=AC hR
 have SA:=AC sa
 have SB:=AC sb
 have hl:=sa.1
 have hlb:=sb.1
 obtain⟨A,c,rfl⟩:=ha.form
 obtain⟨B,c',rfl⟩:=hb.form
 clear ha hb hR sa sb
 by_cases he:a.length=b.length
 ·have hen:((a.length:Int) != (b.length:Int))=false:=by simp [he]
  have HE:=AC he
  clear he
  go_enter Tryz.func42,Tryz.ntmps42
  go_wp2_with fail
  go_loopw [5] (fun I wr=>∃ i:Nat,i≤a.length∧I=.int .i64 i∧D w wr∧Hid (a.take i=b.take i)) (fun I _=>a.length - (intOf I).toNat)
  case atStart=>exact⟨0,Nat.zero_le _,rfl,D.refl _,AC (by simp)⟩
  case round=>
   obtain⟨i,hil,rfl,d,HT⟩:=hrel
   by_cases hlt:i<a.length
   ·have hlb2:i<b.length:=by rw [← HE.out];exact hlt
    obtain⟨p,c1,hv1,hp,A1,k1,hv,hat⟩:=HA.out.pick i hlt
    obtain⟨q,c2,hv2,hq,A2,k2,hu,hbt⟩:=HB.out.pick i hlb2
    injection hv1 with e1 e2 e3
    injection hv2 with f1 f2 f3
    subst e1 e3 f1 f3
    obtain⟨m,rfl⟩:=d
    obtain⟨d0,d1⟩:=hat w (Q.refl w)
    obtain⟨d2,d3⟩:=hbt w (Q.refl w)
    have hi1:(i:Int)<(a.length:Int):=by omega
    have hi2:(i:Int)<(b.length:Int):=by omega
    by_cases hk:a[i].key=b[i].key
    ·obtain⟨S,hS⟩:=Om a[i].L b[i].L
     have SM:Hid (∀ n,Calls Tryz.prog 91 #[.slice A1 a[i].L.length k1,.slice A2 b[i].L.length k2] (w.drewN (m+n)) fun e w''=>e=.returned (.bool S)∧∃ k,w''=w.drewN (m+k)):=AC (fun n=>
      Oz (L5 _ _ _ _ _ S hS (SA.out.2 _ (List.getElem_mem hlt)).2.1 (SB.out.2 _ (List.getElem_mem hlb2)).2.1 (hv.on ((Q.refl w).drewN (m+n))) (hu.on ((Q.refl w).drewN (m+n)))))
     have hT2:S=true→a.take (i+1)=b.take (i+1):=fun e=>by
      have k:=Hb (A:=S) hS
      rcases hS with⟨-,h⟩ | ⟨h,-⟩
      ·rw [List.take_succ_eq_append_getElem hlt,List.take_succ_eq_append_getElem hlb2,HT.out,NK hk h]
      ·rw [h] at e;simp at e
     have hN2:S=false→R=false:=fun e=>Ea HR.out (NL hlt hlb2 fun h=>by
      rcases hS with⟨h',-⟩ | ⟨-,h'⟩
      ·rw [h'] at e;simp at e
      ·exact h' (by rw [h]))
     have h1:=Mu b[i].key
     rw [hk] at d0
     obtain⟨x,hx⟩:∃ x,x=b[i].key:=⟨_,rfl⟩
     obtain⟨L1,hL1⟩:∃ L,L=a[i].L.length:=⟨_,rfl⟩
     obtain⟨L2,hL2⟩:∃ L,L=b[i].L.length:=⟨_,rfl⟩
     rw [← hx] at d0 d2 h1
     rw [← hL1] at d1 SM
     rw [← hL2] at d3 SM
     clear hat hbt hv hu hk hx hL1 hL2 hS
     cases S with
     | true=>
       have HT2:=AC (hT2 rfl)
       clear hT2 hN2
       go_wp2_with fail
       go_quiet ((go_at_call 91;exact SM.out _))
       go_wp2
       go_roundw
       case rel=>exact⟨i+1,by omega,by go_num,⟨m+nq,by first | rfl | rw [World.drewN_drewN]⟩,HT2⟩
       case measure=>simp [intOf];omega
     | false=>
       have HV:=AC (hN2 rfl)
       clear hT2 hN2
       go_wp2_with fail
       go_quiet ((go_at_call 91;exact SM.out _))
       go_wp2
       go_ret
       exact⟨AE (by rw [HV.out]),⟨m+nq,by first | rfl | rw [World.drewN_drewN]⟩⟩
    ·have HV:=AC (Ea HR.out (NL hlt hlb2 fun h=>hk (by rw [h])))
     have h1:=JZ hk
     have h2:¬ a[i].key.toList=b[i].key.toList:=by simpa using h1
     obtain⟨x,hx⟩:∃ x,x=a[i].key:=⟨_,rfl⟩
     obtain⟨y,hy⟩:∃ x,x=b[i].key:=⟨_,rfl⟩
     rw [← hx] at d0 h1 h2
     rw [← hy] at d2 h1 h2
     clear hat hbt hv hu hk hx hy d1 d3
     go_wp2_with fail
     go_quiet (fail)
     go_wp2
     go_ret
     exact⟨AE (by rw [HV.out]),⟨m+nq,by first | rfl | rw [World.drewN_drewN]⟩⟩
   ·have HV:=AC (KB HR.out (by have:=HT.out;rw [List.take_of_length_le (by omega),List.take_of_length_le (by have:=HE.out;omega)] at this;exact this))
    go_wp2
    go_ret
    exact⟨AE (by rw [HV.out]),d⟩
 ·have HV:=AC (Ea HR.out (fun e=>he (congrArg List.length e)))
  have hen:((a.length:Int) != (b.length:Int))=true:=by
   have:¬ (a.length:Int)=(b.length:Int):=by omega
   simpa using this
  clear he
  go_enter Tryz.func42,Tryz.ntmps42
  go_wp2
  go_ret
  exact⟨AE (by rw [HV.out]),D.refl _⟩
end
section
open Go.ChangeShapes Go.WideShapes Go.ChangeAt Go.RowKit
theorem Iq(a:List UInt8):Op.bytesLess a a=false:=by
 induction a with
 | nil=>rfl
 | cons x r ih=>simp [Op.bytesLess,ih]
theorem JW:∀ a b:List UInt8,(Op.bytesLess a b||a==b) = !(Op.bytesLess b a):=by
 intro a
 induction a with
 | nil=>intro b;cases b <;> simp [Op.bytesLess]
 | cons x r ih=>
   intro b
   cases b with
   | nil=>simp [Op.bytesLess]
   | cons y m=>
     have h:=ih m
     by_cases e:x=y
     ·subst e
      have nl:¬ x<x:=by simp
      simp only [Op.bytesLess,nl,decide_false,Bool.false_or,beq_self_eq_true,Bool.true_and]
      rw [← h]
      simp
     ·have e':¬ y=x:=fun q=>e q.symm
      by_cases lt:x<y
      ·have ngt:¬ y<x:=by
        rw [UInt8.lt_iff_toNat_lt] at lt ⊢;omega
       simp [Op.bytesLess,lt,ngt,e,e']
      ·have gt:y<x:=by
        rw [UInt8.lt_iff_toNat_lt] at lt ⊢
        have:¬ x.toNat=y.toNat:=fun q=>e (UInt8.toNat_inj.1 q)
        omega
       simp [Op.bytesLess,lt,gt,e,e']
theorem Kl:∀ a b c:List UInt8,Op.bytesLess a b=true→Op.bytesLess b c=true→Op.bytesLess a c=true:=by
 intro a
 induction a with
 | nil=>intro b c h k;cases c with
   | nil=>simp [Op.bytesLess] at k
   | cons _ _=>rfl
 | cons x r ih=>
   intro b c h k
   cases b with
   | nil=>simp [Op.bytesLess] at h
   | cons y m=>
     cases c with
     | nil=>simp [Op.bytesLess] at k
     | cons z s=>
       simp only [Op.bytesLess,Bool.or_eq_true,Bool.and_eq_true,decide_eq_true_eq,beq_iff_eq] at h k ⊢
       rcases h with h | ⟨rfl,h⟩
       ·rcases k with k | ⟨rfl,k⟩
        ·left;rw [UInt8.lt_iff_toNat_lt] at *;omega
        ·exact .inl h
       ·rcases k with k | ⟨rfl,k⟩
        ·exact .inl k
        ·exact .inr ⟨rfl,ih m s h k⟩
theorem Br(a:ByteArray):ltB a a=false:=Iq _
theorem DT{a b c:ByteArray}(h:ltB a b=true)(k:ltB b c=true):ltB a c=true:=Kl _ _ _ h k
theorem Hn{a b:ByteArray}(h:ltB a b=true):ltB b a=false:=by
 cases k:ltB b a with
 | false=>rfl
 | true=>have:=DT h k;rw [Br] at this;exact this.symm
theorem Mm(a b:ByteArray):(ltB a b||a.toList==b.toList) = !(ltB b a):=JW _ _
theorem Eu{a b:ByteArray}(h:a≠b)(k:ltB a b=false):ltB b a=true:=by
 have:=Mm a b
 rw [k,JZ h] at this
 simpa using this.symm
theorem Fs{a b:ByteArray}(h:ltB a b=true):a≠b:=fun e=>by rw [e,Br] at h;simp at h
theorem ES(a b:ByteArray):(!(Op.bytesLess a.toList b.toList||a.toList==b.toList))=ltB b a:=by rw [JW];simp [ltB]
def IQ(l:List Ent)(i:Nat):Prop:=∀ h:i<l.length,BD 1 60 ko l[i].key=true∧0<l[i].L.length∧okP l[i].L∧∀ j (hj:j+1=i),ltB (l[j]'(by omega)).key l[i].key=true
def okI(l:List Ent):Prop:=l.length≤60∧∀ i,IQ l i
def Sl(l:List Ent)(R:Bool):Prop:=(R=true∧okI l)∨(R=false∧¬ okI l)
theorem Gk(l:List Ent):∃ R,Sl l R:=by
 by_cases h:okI l
 ·exact⟨true,.inl ⟨rfl,h⟩⟩
 ·exact⟨false,.inr ⟨rfl,h⟩⟩
theorem Gj{l:List Ent}{R:Bool}(h:Sl l R)(k:¬ okI l):R=false:=by
 rcases h with⟨-,h⟩ | ⟨h,-⟩
 ·exact absurd h k
 ·exact h
theorem QV{l:List Ent}{R:Bool}(h:Sl l R)(k:okI l):R=true:=by
 rcases h with⟨h,-⟩ | ⟨-,h⟩
 ·exact h
 ·exact absurd k h
theorem Jt{l:List Ent}{R:Bool}(h:Sl l R)(k:∀ j,j<l.length→IQ l j):R=decide (l.length≤60):=by
 have hall:∀ i,IQ l i:=fun i=>by
  by_cases hi:i<l.length
  ·exact k i hi
  ·exact fun h=>absurd h hi
 by_cases h60:l.length≤60
 ·rw [QV h ⟨h60,hall⟩];simp [h60]
 ·rw [Gj h (fun o=>h60 o.1)];simp [h60]
end
end Go.Proofs.YtjjlbbfhmpbneaaGreat
