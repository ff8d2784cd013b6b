/-
  Small words shared by the proofs of this seat: worlds that only grow, texts as lists of octets, slices of texts. Versions: as values, as cells, as slices; what may be. Slices of versions: as they lie in memory, made by a call, and opened as arguments. Contracts of the document's without, Check, Find, Same. Contracts of the statements' One and Few, and of the document's Same. Worlds of which nothing but the tape has gone on. Contract of the document's Same.
-/
import Derived.Test.YtjjlbbfhmpbneaaGreatRows
import Derived.WalkKit
import Derived.ProofKit
import Derived.WalkSpells
import Derived.Below
import Derived.Lib.Hide
import Derived.Deep.QuietTactic
import Derived.BigQuiet
import Derived.RegionTactic
import Derived.WalkSmall
import Derived.OwnWalk
import Derived.OneCell
import Derived.Laws.OwnMore
import Derived.Laws.EntriesVeiled
import Derived.Laws.IdiomStrings
import Derived.Lib.AppendStr
import Derived.Lib.UnsafeStr
import Derived.Deep.AppendLies
import Derived.OpenShut
import Derived.ShutString
import Derived.ChangeOld
import Derived.ChangeSlices
import Derived.Lib.SmallJoins
import Derived.Deep.Slices
import Derived.Carry
import Derived.Laws.ResultCell
import Derived.OrdersHeld
import Derived.Deep.RegionHeld
namespace Go.Proofs.YtjjlbbfhmpbneaaGreat
open Lib renaming hid → AC
set_option maxHeartbeats 16000000
set_option maxRecDepth 100000
set_option linter.unusedVariables false
set_option linter.unusedSimpArgs false
section
open Go.ChangeShapes Go.WideShapes Go.ChangeAt Go.RowKit
theorem HMF:∀ (fn:Fn) (first cap:Array Value) (w:World),(Instr.makeFunc fn first cap).run Tryz.prog w=.ok (.func fn first cap) w:=fun _ _ _ _=>rfl
theorem tkL{P:Program}{ops:Array Oper}{Q:Exit→Act→World→Prop}{md:Region.Mode}{S:World→Prop}(i:Nat){v:Value}{oi:Oper}{fuel:Nat}{listed:Array Bool}{a:Act}{w:World}(hi:ops[i]?=some oi)(hv:∀ x,S x→(execOp a.eval oi).run P x=.ok (.value v) x)(h:wpAnyH P md ops Q S fuel (listed.setIfInBounds i true) (a.put oi.dst v) w)
  (hs:Region.noSelect ops=true:=by kernel_rfl) (hf:Region.free md ops listed i=true:=by kernel_rfl) (hr:(Region.ready md ops listed).contains i=true:=by kernel_rfl) (hQ:∀ c a w,Q (.panic c) (a.put oi.dst v) w→Q (.panic c) a w:=by exact fun _ _ _ h=>h) (hw:Region.wanted oi (yielded ops a.tmps)=true:=by rfl) (hS:S w:=by assumption):wpAnyH P md ops Q S (fuel+1) listed a w:=
 wpAnyH_take hi hs hf hr hQ (Or.inl ⟨hw,hv⟩) hS h
theorem tkV{P:Program}{ops:Array Oper}{Q:Exit→Act→World→Prop}{md:Region.Mode}{S:World→Prop}{G:Prop}(i:Nat){v:Value}{oi:Oper}{fuel:Nat}{listed:Array Bool}{a:Act}{w:World}(h:G)(hi:ops[i]?=some oi:=by rfl)
  (hs:Region.noSelect ops=true:=by kernel_rfl) (hf:Region.free md ops listed i=true:=by kernel_rfl) (hr:(Region.ready md ops listed).contains i=true:=by kernel_rfl) (hw:Region.wanted oi (yielded ops a.tmps)=true:=by rfl) (hS:S w:=by assumption) (hv:∀ x,S x→(execOp a.eval oi).run P x=.ok (.value v) x:=by(intro wx hSw;(try dsimp only at hSw);go_simp;(try with_reducible rfl))) (hQ:∀ c a w,Q (.panic c) (a.put oi.dst v) w→Q (.panic c) a w:=by exact fun _ _ _ h=>h) (hg:wpAnyH P md ops Q S fuel (listed.setIfInBounds i true) (a.put oi.dst v) w=G:=by((try simp only [Act.put,PS]);rfl)):wpAnyH P md ops Q S (fuel+1) listed a w:=
 wpAnyH_take hi hs hf hr hQ (Or.inl ⟨hw,hv⟩) hS (Eq.mpr hg h)
theorem tkB{P:Program}{ops:Array Oper}{Q:Exit→Act→World→Prop}{md:Region.Mode}{S:World→Prop}{G:Prop}(i:Nat)(v:Value){oi:Oper}{fuel:Nat}{listed:Array Bool}{a:Act}{w:World}(h:G)(hi:ops[i]?=some oi:=by rfl)
  (hs:Region.noSelect ops=true:=by kernel_rfl) (hf:Region.free md ops listed i=true:=by kernel_rfl) (hr:(Region.ready md ops listed).contains i=true:=by kernel_rfl) (hw:Region.wanted oi (yielded ops a.tmps)=true:=by rfl) (hS:S w:=by assumption) (hv:∀ x,S x→(execOp a.eval oi).run P x=.ok (.value v) x:=by(intro wx hSw;(try dsimp only at hSw);go_simp;(try omega);(try simp [*]);(try omega))) (hQ:∀ c a w,Q (.panic c) (a.put oi.dst v) w→Q (.panic c) a w:=by exact fun _ _ _ h=>h) (hg:wpAnyH P md ops Q S fuel (listed.setIfInBounds i true) (a.put oi.dst v) w=G:=by((try simp only [Act.put,PS]);rfl)):wpAnyH P md ops Q S (fuel+1) listed a w:=
 wpAnyH_take hi hs hf hr hQ (Or.inl ⟨hw,hv⟩) hS (Eq.mpr hg h)
theorem tkU{P:Program}{ops:Array Oper}{Q:Exit→Act→World→Prop}{md:Region.Mode}{S:World→Prop}{G:Prop}(i:Nat){oi:Oper}{fuel:Nat}{listed:Array Bool}{a:Act}{w:World}(h:G)(hi:ops[i]?=some oi:=by rfl)
  (hs:Region.noSelect ops=true:=by kernel_rfl) (hf:Region.free md ops listed i=true:=by kernel_rfl) (hr:(Region.ready md ops listed).contains i=true:=by kernel_rfl) (hw:Region.wanted oi (yielded ops a.tmps)=false:=by rfl) (hS:S w:=by assumption) (hQ:∀ c a w,Q (.panic c) (a.put oi.dst undef) w→Q (.panic c) a w:=by exact fun _ _ _ h=>h) (hg:wpAnyH P md ops Q S fuel (listed.setIfInBounds i true) (a.put oi.dst undef) w=G:=by((try simp only [Act.put,PS]);rfl)):wpAnyH P md ops Q S (fuel+1) listed a w:=
 wpAnyH_take hi hs hf hr hQ (Or.inr ⟨hw,rfl⟩) hS (Eq.mpr hg h)
theorem aR{P:Program}{ops:Array Oper}{Q:Exit→Act→World→Prop}{md:Region.Mode}{S:World→Prop}{fuel:Nat}{listed:Array Bool}{a:Act}{w:World}(rs:List Nat)(h:AllReadyH P md ops Q S fuel listed a w rs)(hr:Region.ready md ops listed=rs:=by kernel_rfl)(hne:rs≠[]:=by simp):wpAnyH P md ops Q S (fuel+1) listed a w:=wpAnyH_ready hr hne h
theorem pg{A G:Prop}(h:G)(hg:A=G:=by((try simp only [Act.put,PS]);rfl)):A:=Eq.mpr hg h
theorem PS{α:Type}: (∀ (l:List α) (i:Nat) (h:i<l.toArray.size),l.toArray[i]'h=l[i]'(by simpa using h))∧(∀ (a:α) (l:List α) (h:0<(a :: l).length),(a :: l)[0]'h=a)∧(∀ (a:α) (l:List α) (i:Nat) (h:i+1<(a :: l).length),(a :: l)[i+1]'h=l[i]'(Nat.lt_of_succ_lt_succ h))∧(∀ (l:List α) (i:Nat) (a:α),l.toArray.setIfInBounds i a=(l.set i a).toArray)∧(∀ (x y:α) (l:List α),(x :: l).set 0 y=y :: l)∧(∀ (x y:α) (l:List α) (i:Nat),(x :: l).set (i+1) y=x :: l.set i y):=
 ⟨fun _ _ _=>List.getElem_toArray _,fun _ _ _=>rfl,fun _ _ _ _=>rfl,fun _ _ _=>List.setIfInBounds_toArray ..,fun _ _ _=>rfl,fun _ _ _ _=>rfl⟩
def Q(w w':World):Prop:=Below w.heap.size w w'
theorem Q.refl(w:World):Q w w:=Below.refl _ _
theorem Q.trans{a b c:World}(h:Q a b)(k:Q b c):Q a c:=Below.trans h (Below.mono k h.size)
theorem Q.drew{a b:World}(h:Q a b):Q a b.drew:=Below.drew h
theorem Q.alloc{a b:World}(h:Q a b)(o:Obj):Q a (b.alloc o):=Below.alloc h h.size o
theorem Q.drewN{a b:World}(h:Q a b)(n:Nat):Q a (b.drewN n):=below_drewN h n
theorem Q.size{a b:World}(h:Q a b):a.heap.size≤b.heap.size:=Below.size h
theorem Cf{a b:ByteArray}(h:a=b):Ending.returned (.string a)=.returned (.string b):=by rw [h]
theorem AE{a b:Bool}(h:a=b):Ending.returned (.bool a)=.returned (.bool b):=by rw [h]
def bl(s:ByteArray):List UInt8:=s.data.toList
def mk(l:List UInt8):ByteArray:=⟨l.toArray⟩
theorem FK(l:List UInt8):bl (mk l)=l:=rfl
theorem PZ(s:ByteArray):mk (bl s)=s:=rfl
theorem Ba(s:ByteArray):(bl s).length=s.size:=Array.length_toList
theorem BW(l:List UInt8):(mk l).size=l.length:=by rw [← Ba,FK]
theorem FL{a b:ByteArray}(h:bl a=bl b):a=b:=by rw [← PZ a,← PZ b,h]
theorem CR(a b:ByteArray):bl (a++b)=bl a++bl b:=by simp [bl]
theorem LS(s:ByteArray)(i j:Nat):bl (s.extract i j)=((bl s).drop i).take (j - i):=by
 simp [bl]
theorem BQ(s:ByteArray):s.toList=bl s:=ByteArray.toList_eq s
theorem GF(s:ByteArray){a b:Nat}(h:b≤s.size):(s.extract a b).size=b - a:=by
 rw [← Ba,LS,List.length_take,List.length_drop,Ba];omega
theorem Jl(a b:ByteArray):(a.toList==b.toList)=decide (a=b):=by
 rw [BQ,BQ]
 by_cases h:a=b
 ·subst h;simp
 ·have:¬ bl a=bl b:=fun e=>h (FL e)
  simp [h,this]
theorem EL(a:ByteArray):a.toList=[]↔a.size=0:=by
 rw [BQ,← Ba];exact List.length_eq_zero_iff.symm
def Txts(w:World)(B:Nat)(v:Value)(l:List ByteArray):Prop:=
 ∃ A c,v=.slice A l.length c∧∀ k (h:k<l.length),∃ a:Addr,A=some a∧a.block<B∧w.cell? (a.add k)=some (.string l[k])
theorem AG(a:Addr)(n:Nat):(a.add n).block=a.block:=by unfold Addr.add;split <;> rfl
theorem Txts.keep{w w':World}{B:Nat}{v:Value}{l:List ByteArray}(h:Txts w B v l)(k:∀ p:Addr,p.block<B→w'.cell? p=w.cell? p):Txts w' B v l:=by
 obtain⟨A,c,e,f⟩:=h
 refine⟨A,c,e,fun i hi=>?_⟩
 obtain⟨a,e1,e2,e3⟩:=f i hi
 exact⟨a,e1,e2,(k _ (by rw [AG];exact e2)).trans e3⟩
theorem Txts.below{w w':World}{B:Nat}{v:Value}{l:List ByteArray}(h:Txts w B v l)(k:Below B w w'):Txts w' B v l:=h.keep fun _ hp=>k.cell hp
theorem Txts.more{w:World}{B B':Nat}{v:Value}{l:List ByteArray}(h:Txts w B v l)(k:B≤B'):Txts w B' v l:=by
 obtain⟨A,c,e,f⟩:=h
 refine⟨A,c,e,fun i hi=>?_⟩
 obtain⟨a,e1,e2,e3⟩:=f i hi
 exact⟨a,e1,by omega,e3⟩
theorem Txts.on{w w':World}{v:Value}{l:List ByteArray}(h:Txts w w.heap.size v l)(k:Q w w'):Txts w' w'.heap.size v l:=(h.below k).more k.size
theorem Txts.nil(w:World)(B:Nat):Txts w B (.slice none 0 0) []:=⟨none,0,rfl,fun k h=>absurd h (by simp)⟩
theorem Txts.own{w:World}{base e:Nat}{v:Value}{n:Nat}{l:List ByteArray}(h:w.ownsRow base e 1 v n (l.map Value.string)):Txts w w.heap.size v l:=by
 have hn:n=l.length:=by have:=h.1;simpa using this.symm
 subst hn
 rcases h.2 with⟨rfl,h0⟩ | ⟨g,cap,cur,rfl,hb,hg,h1,h2,h3,h4⟩
 ·rw [List.length_eq_zero_iff.1 h0];exact Txts.nil _ _
 ·refine⟨_,_,rfl,fun k hk=>⟨⟨g,0,none⟩,rfl,lt_of_block hg,?_⟩⟩
  exact h.cells (g:=g) rfl k _ (by simp [hk])
end
section
open Go.ChangeShapes Go.WideShapes Go.ChangeAt Go.RowKit
structure Ver where
 id:Nat
 data:ByteArray
 mark:Bool
 tm:Int
def ver(v:Ver):Value:=.agg #[.int .u64 (v.id:Nat),.string v.data,.bool v.mark,.int .i64 v.tm]
def Ag(v:Ver):List Value:=[.int .u64 (v.id:Nat),.string v.data,.bool v.mark,.int .i64 v.tm]
def B9(v:Ver):Bool:=decide (v.id≤281474976710655)&&decide (v.data.size≤2000)&&(!v.mark||decide (v.data.size=0))&&decide (0≤v.tm)&&decide (v.tm≤1099511627775)
theorem GR{v:Ver}: B9 v=true↔v.id≤281474976710655∧v.data.size≤2000∧(v.mark=true→v.data.size=0)∧0≤v.tm∧v.tm≤1099511627775:=by
 unfold B9
 cases v.mark <;> simp [and_assoc]
theorem Ql{t:ByteArray}(h:0<t.size):(t.toList == [])=false:=by
 have:¬ t.toList=[]:=fun e=>by have:=(EL t).1 e;omega
 simpa using this
theorem NN{t:ByteArray}(h:0<t.size):t.toList.isEmpty=false:=by
 cases e:t.toList.isEmpty with
 | false=>rfl
 | true=>have:=(EL t).1 (List.isEmpty_iff.1 e);omega
theorem NM{t:ByteArray}(h:t.size=0):(t.toList == [])=true:=by
 rw [(EL t).2 h];rfl
theorem Jm{t:ByteArray}(h:t.size=0):t.toList.isEmpty=true:=List.isEmpty_iff.2 ((EL t).2 h)
theorem Q7(t:Int):¬ 0≤t∨(0≤t∧t≤1099511627775)∨(0≤t∧¬ t≤1099511627775):=by omega
theorem BF(v:Ver)(w:World):
  Calls Tryz.prog 126 #[ver v] w fun e w'=>e=.returned (.bool (B9 v))∧Q w w':=by
 have HF:=AC (show B9 v=(decide (v.id≤281474976710655)&&decide (v.data.size≤2000)&&(!v.mark||decide (v.data.size=0))&&decide (0≤v.tm)&&decide (v.tm≤1099511627775)) from rfl)
 have HQ:=AC (fun o=>(Q.refl w).alloc o)
 obtain⟨i,d,m,t⟩:=v
 rw [ver]
 simp only at HF ⊢
 by_cases h1:i≤281474976710655
 ·have j1:(i:Int)≤281474976710655:=by omega
  by_cases h2:d.size≤2000
  ·have j2:(d.size:Int)≤2000:=by omega
   by_cases hz:d.size=0
   ·have e1:=NM hz
    have e2:=Jm hz
    rcases Q7 t with h3 | ⟨h3,h4⟩ | ⟨h3,h4⟩ <;> cases m
    all_goals
     have HV:=AC (HF.out.trans (by simp [*]:_=decide (0≤t∧t≤1099511627775)))
     go_enter Tryz.func126,Tryz.ntmps126
     go_wp2
     go_ret
     exact⟨AE (by rw [HV.out];(try simp [*]);(try omega)),HQ.out _⟩
   ·have e1:=Ql (t:=d) (by omega)
    have e2:=NN (t:=d) (by omega)
    cases m
    ·rcases Q7 t with h3 | ⟨h3,h4⟩ | ⟨h3,h4⟩
     all_goals
      have HV:=AC (HF.out.trans (by simp [*]:_=decide (0≤t∧t≤1099511627775)))
      go_enter Tryz.func126,Tryz.ntmps126
      go_wp2
      go_ret
      exact⟨AE (by rw [HV.out];(try simp [*]);(try omega)),HQ.out _⟩
    ·have HV:=AC (HF.out.trans (by simp [hz]:_=false))
     go_enter Tryz.func126,Tryz.ntmps126
     go_wp2
     go_ret
     exact⟨AE (by rw [HV.out]),HQ.out _⟩
  ·have j2:¬ (d.size:Int)≤2000:=by omega
   have HV:=AC (HF.out.trans (by simp [h2]:_=false))
   go_enter Tryz.func126,Tryz.ntmps126
   go_wp2
   go_ret
   exact⟨AE (by rw [HV.out];(try simp [*]);(try omega)),HQ.out _⟩
 ·have j1:¬ (i:Int)≤281474976710655:=by omega
  have HV:=AC (HF.out.trans (by simp [h1]:_=false))
  go_enter Tryz.func126,Tryz.ntmps126
  go_wp2
  go_ret
  exact⟨AE (by rw [HV.out];(try simp [*]);(try omega)),HQ.out _⟩
end
section
open Go.ChangeShapes Go.WideShapes Go.ChangeAt Go.RowKit
def At(w:World)(p:Addr)(v:Ver):Prop:=
 w.cell? p=some (.int .u64 (v.id:Nat))∧w.cell? ⟨p.block,p.off+1,none⟩=some (.string v.data)∧w.cell? ⟨p.block,p.off+2,none⟩=some (.bool v.mark)∧w.cell? ⟨p.block,p.off+3,none⟩=some (.int .i64 v.tm)
def okV(v:Ver):Prop:=v.id<18446744073709551616∧v.data.size≤maxLen∧-9223372036854775808≤v.tm∧v.tm≤9223372036854775807
def Vers(w:World)(B:Nat)(v:Value)(l:List Ver):Prop:=
 ∃ A c,v=.slice A l.length c∧l.length≤c∧(A=none→c=0)∧(∀ x∈l,okV x)∧∀ k (h:k<l.length),∃ a:Addr,A=some a∧a.block<B∧At w (a.add (k*4)) l[k]
theorem Ai(p:Addr){k:Nat}(h:0<k):p.add k=⟨p.block,p.off+k,none⟩:=by
 unfold Addr.add;rw [if_neg (by omega)]
theorem At.keep{w w':World}{p:Addr}{v:Ver}(h:At w p v){B:Nat}(hp:p.block<B)(k:∀ p:Addr,p.block<B→w'.cell? p=w.cell? p):At w' p v:=
 ⟨(k p hp).trans h.1,(k ⟨p.block,p.off+1,none⟩ hp).trans h.2.1,(k ⟨p.block,p.off+2,none⟩ hp).trans h.2.2.1,(k ⟨p.block,p.off+3,none⟩ hp).trans h.2.2.2⟩
theorem Vers.keep{w w':World}{B:Nat}{v:Value}{l:List Ver}(h:Vers w B v l)(k:∀ p:Addr,p.block<B→w'.cell? p=w.cell? p):Vers w' B v l:=by
 obtain⟨A,c,e,e0,ez,eo,f⟩:=h
 refine⟨A,c,e,e0,ez,eo,fun i hi=>?_⟩
 obtain⟨a,e1,e2,e3⟩:=f i hi
 exact⟨a,e1,e2,e3.keep (by rw [AG];exact e2) k⟩
theorem Vers.below{w w':World}{B:Nat}{v:Value}{l:List Ver}(h:Vers w B v l)(k:Below B w w'):Vers w' B v l:=h.keep fun _ hp=>k.cell hp
theorem Vers.more{w:World}{B B':Nat}{v:Value}{l:List Ver}(h:Vers w B v l)(k:B≤B'):Vers w B' v l:=by
 obtain⟨A,c,e,e0,ez,eo,f⟩:=h
 refine⟨A,c,e,e0,ez,eo,fun i hi=>?_⟩
 obtain⟨a,e1,e2,e3⟩:=f i hi
 exact⟨a,e1,by omega,e3⟩
theorem Vers.on{w w':World}{v:Value}{l:List Ver}(h:Vers w w.heap.size v l)(k:Q w w'):Vers w' w'.heap.size v l:=(h.below k).more k.size
theorem Vers.nil(w:World)(B:Nat):Vers w B (.slice none 0 0) []:=⟨none,0,rfl,Nat.le_refl _,fun _=>rfl,by simp,fun k h=>absurd h (by simp)⟩
theorem DG{α:Type}{P:Nat→α→Prop}(n:Nat)(h:∀ i,i<n→∃ x,P i x):∃ l:List α,l.length=n∧∀ i (hi:i<l.length),P i l[i]:=by
 induction n with
 | zero=>exact⟨[],rfl,fun i hi=>absurd hi (by simp)⟩
 | succ n ih=>
   obtain⟨l,hl,hp⟩:=ih fun i hi=>h i (by omega)
   obtain⟨x,hx⟩:=h n (by omega)
   refine⟨l ++ [x],by simp [hl],fun i hi=>?_⟩
   by_cases hin:i<l.length
   ·rw [List.getElem_append_left hin];exact hp i hin
   ·have:i=n:=by simp at hi;omega
    subst this
    rw [List.getElem_append_right (by omega)]
    simpa [hl] using hx
theorem own:ownKnob Tryz.prog.godebug=none:=by kernel_rfl
theorem T7:laidOutB Tryz.prog=true:=by kernel_rfl
theorem Nl:Tryz.prog.cellsOf 49=4:=by kernel_rfl
theorem OR{a:Int}(h:(Lit.int .i64 a).wf=true): -9223372036854775808≤a∧a≤9223372036854775807:=by
 simpa [Lit.wf,IntKind.min,IntKind.max,IntKind.signed,IntKind.bits] using h
theorem OQ{a:Int}(h:(Lit.int .u64 a).wf=true):∃ n:Nat,a=n∧n<18446744073709551616:=by
 have h2:0≤a∧a≤18446744073709551615:=by simpa [Lit.wf,IntKind.min,IntKind.max,IntKind.signed,IntKind.bits] using h
 exact⟨a.toNat,by omega,by omega⟩
theorem EP:(Tryz.prog.info? 49).map (fun i=>(i.zero,i.size,i.bytes))=some (some (.agg #[.int .u64 0,.string ⟨#[]⟩,.bool false,.int .i64 0]),4,40):=by kernel_rfl
def OwnV(base:Nat)(w:World)(v:Value)(l:List Ver):Prop:=w.ownsRow base 49 4 v l.length (l.flatMap Ag)
theorem OwnV.nil(base:Nat)(w:World):OwnV base w (.slice none 0 0) []:=World.ownsRow_nil w _ _ _
theorem Ez(l:List Ver):(l.flatMap Ag).length=l.length*4:=by
 induction l with
 | nil=>rfl
 | cons x r ih=>rw [List.flatMap_cons,List.length_append,ih,List.length_cons,show(Ag x).length=4 by rfl];omega
theorem M9(l:List Ver)(k:Nat)(h:k<l.length){j:Nat}(hj:j<4):(l.flatMap Ag)[k*4+j]?=(Ag l[k])[j]?:=by
 induction l generalizing k with
 | nil=>simp at h
 | cons x r ih=>
   rw [List.flatMap_cons]
   cases k with
   | zero=>rw [List.getElem?_append_left (by rw [show(Ag x).length=4 by rfl];omega)];simp
   | succ k=>
     rw [List.getElem?_append_right (by rw [show(Ag x).length=4 by rfl];omega),show(k+1)*4+j - (Ag x).length=k*4+j by rw [show(Ag x).length=4 by rfl];omega,ih k (by simpa using h)]
     rfl
theorem OwnV.vers{base:Nat}{w:World}{v:Value}{l:List Ver}(h:OwnV base w v l)(hl:∀ x∈l,okV x):Vers w w.heap.size v l:=by
 rcases h.2 with⟨rfl,h0⟩ | ⟨g,cap,cur,rfl,hb,hg,h1,h2,h3,h4⟩
 ·rw [List.length_eq_zero_iff.1 h0];exact Vers.nil _ _
 ·refine⟨_,_,rfl,h1,(by simp),hl,fun k hk=>⟨⟨g,0,none⟩,rfl,lt_of_block hg,?_⟩⟩
  have hc:∀ j,j<4→w.cell? ((⟨g,0,none⟩:Addr).add (k*4+j))=(Ag l[k])[j]?:=by
   intro j hj
   have:=M9 l k hk hj
   obtain⟨u,hu⟩:∃ u,(Ag l[k])[j]?=some u:=⟨_,List.getElem?_eq_getElem (by rw [show(Ag l[k]).length=4 by rfl];exact hj)⟩
   rw [hu] at this ⊢
   exact World.ownsRow.cells h (g:=g) rfl _ _ this
  have ha:∀ j,0<j→(⟨g,0,none⟩:Addr).add (k*4+j)=⟨((⟨g,0,none⟩:Addr).add (k*4)).block,((⟨g,0,none⟩:Addr).add (k*4)).off+j,none⟩:=by
   intro j hj
   rw [Ai _ (by omega),AG]
   unfold Addr.add
   split
   ·rename_i h0;simp [h0]
   ·simp [Nat.add_assoc]
  refine⟨hc 0 (by omega),?_,?_,?_⟩
  ·rw [← ha 1 (by omega)];exact hc 1 (by omega)
  ·rw [← ha 2 (by omega)];exact hc 2 (by omega)
  ·rw [← ha 3 (by omega)];exact hc 3 (by omega)
theorem OwnV.on{base:Nat}{w w':World}{v:Value}{l:List Ver}(h:OwnV base w v l)(q:Q w w'):OwnV base w' v l:=by
 rcases h.2 with⟨rfl,h0⟩ | ⟨g,cap,cur,rfl,hb,hg,h1,h2,h3,h4⟩
 ·exact⟨h.1,.inl ⟨rfl,h0⟩⟩
 ·exact⟨h.1,.inr ⟨g,cap,cur,rfl,hb,(q.block g (lt_of_block hg)).trans hg,h1,h2,h3,h4⟩⟩
theorem Df(x:Ver):∀ u∈Ag x,u.oneCell'=true:=by
 intro u hu
 simp [Ag] at hu
 rcases hu with rfl | rfl | rfl | rfl <;> rfl
theorem Pt(l:List Ver):∀ u∈l.flatMap Ag,u.oneCell'=true:=by
 intro u hu
 obtain⟨x,-,hx⟩:=List.mem_flatMap.1 hu
 exact Df x u hx
theorem OwnV.onto{base k:Nat}{w2:World}{v2:Value}{L M:List Ver}(h1:w2.ownsRow base 49 4 v2 (L.length+k) (L.flatMap Ag++M.flatMap Ag))(hk:k=M.length):OwnV base w2 v2 (L++M):=by
 subst hk
 unfold OwnV
 rw [List.flatMap_append,List.length_append]
 exact h1
theorem BA{base:Nat}{w0 wr w2:World}{v:Value}{L:List Ver}(hbel:Below base w0 wr)(hb:base≤wr.heap.size)(hown:OwnV base wr v L)(h2:wr.grownBy w2 v.ownBlock):Below base w0 w2:=
 hbel.grown h2 hb (fun k hk=>(World.ownsRow.lt hown k hk).1)
theorem H3(w:World)(x:Ver)(t:TypeId):∀ j u,(Ag x)[j]?=some u→(w.alloc (.cells (Ag x).toArray t)).cell? ((⟨w.heap.size,0,none⟩:Addr).add j)=some u:=by
 intro j u hj
 obtain⟨hj2,rfl⟩:=List.getElem?_eq_some_iff.1 hj
 match j,hj2 with
 | 0,_=>simp [Addr.add,Ag]
 | 1,_=>simp [Addr.add,Ag]
 | 2,_=>simp [Addr.add,Ag]
 | 3,_=>simp [Addr.add,Ag]
end
section
open Go.ChangeShapes Go.WideShapes Go.ChangeAt Go.RowKit
def woV(l:List Ver)(id:Nat):List Ver:=l.filter fun x=>decide (x.id≠id)
theorem J3{l:List Ver}{i id:Nat}(h:i<l.length)(k:l[i].id=id):woV (l.take (i+1)) id=woV (l.take i) id:=by
 rw [List.take_succ_eq_append_getElem h,woV,List.filter_append,← woV,List.filter_cons_of_neg (by simp [k])];simp
theorem IJ{l:List Ver}{i id:Nat}(h:i<l.length)(k:l[i].id≠id):woV (l.take (i+1)) id=woV (l.take i) id ++ [l[i]]:=by
 rw [List.take_succ_eq_append_getElem h,woV,List.filter_append,← woV,List.filter_cons_of_pos (by simp [k])];rfl
theorem Gz(l:List Ver)(id:Nat):(woV l id).length≤l.length:=List.length_filter_le ..
theorem Bi(l:List Ver)(v:Value)(id:Nat)(w:World)(hl:l.length≤1000)(ht:Vers w w.heap.size v l):
  Calls Tryz.prog 127 #[v,.int .u64 (id:Nat)] w fun e w'=>∃ v',e=.returned v'∧OwnV w.heap.size w' v' (woV l id)∧Q w w':=by
 obtain⟨A,c,rfl,-,-,-,hcells⟩:=ht
 have HC:=AC hcells
 clear hcells
 obtain⟨i0,hi,hz0,hz1,hz2⟩:=info_parts EP
 go_enter Tryz.func127,Tryz.ntmps127
 go_wp2_with fail
 go_loopw [5,6] (fun O I wr=>∃ i:Nat,i≤l.length∧I=.int .i64 i∧OwnV w.heap.size wr O (woV (l.take i) id)∧Below w.heap.size w wr) (fun _ I _=>l.length - (intOf I).toNat)
 case atStart=>exact⟨0,Nat.zero_le _,rfl,OwnV.nil _ _,Below.refl _ _⟩
 case round=>
  obtain⟨i,hil,rfl,hown,hbel⟩:=hrel
  by_cases hlt:i<l.length
  ·obtain⟨a,rfl,ha,hat⟩:=HC.out i hlt
   obtain⟨c0,c1,c2,c3⟩:=hat.keep (by rw [AG];exact ha) fun _ hp=>hbel.cell hp
   clear hat
   by_cases hid:l[i].id=id
   ·have HW:=AC (J3 hlt hid)
    obtain⟨x,hx⟩:∃ x,x=l[i]:=⟨_,rfl⟩
    rw [← hx] at c0 c1 c2 c3
    have hne:((x.id:Int) != (id:Int))=false:=by rw [hx,hid];simp
    clear hx hid
    go_wp2_with fail
    go_roundw
    case rel=>exact⟨i+1,by omega,by go_num,by rw [HW.out];exact hown,hbel⟩
    case measure=>simp [intOf];omega
   ·have HW:=AC (IJ hlt hid)
    have hlen:(woV (l.take i) id).length≤1000:=by have:=Gz (l.take i) id;rw [List.length_take] at this;omega
    obtain⟨x,hx⟩:∃ x,x=l[i]:=⟨_,rfl⟩
    rw [← hx] at c0 c1 c2 c3 HW
    have hne:((x.id:Int) != (id:Int))=true:=by
     rw [hx]
     have:¬ ((l[i].id:Int)=(id:Int)):=by omega
     simpa using this
    clear hx hid
    have hs:=hbel.size
    go_wp2_with (first | (at_builtin;refine wpList_append_own _ rfl _ _ 77 rfl w.heap.size 49 i0 (.agg #[.int .u64 0,.string ⟨#[]⟩,.bool false,.int .i64 0]) 4 40 Tryz.underlying77 hi hz0 hz1 hz2 rfl (by decide) _ _ _ rfl (World.ownsRow.alloc hown _) ⟨wr.heap.size,0,none⟩ 1 1 (Ag x) rfl rfl (H3 _ _ _) (Df x) (by unfold maxLen;omega) (by omega) (by simp;omega) ?_;intro v1 w1 h1 h2 _;have r1:OwnV w.heap.size w1 v1 (woV (l.take i) id ++ [x]):=OwnV.onto (M:=[x]) (by simpa using h1) rfl;have b1:=BA (hbel.alloc hs _) (by simp;omega) (World.ownsRow.alloc hown _) h2;rw [← HW.out] at r1;clear h1 h2))
    go_roundw
    case rel=>exact⟨i+1,by omega,by go_num,r1,b1⟩
    case measure=>simp [intOf];omega
  ·obtain rfl:i=l.length:=by omega
   rw [List.take_length] at hown
   go_wp2
   go_ret
   exact⟨_,rfl,hown,hbel⟩
end
section
open Go.ChangeShapes Go.WideShapes Go.ChangeAt Go.RowKit
def D9(v:Ver):Ver:=if 2001<v.data.size then{v with data:=v.data.extract 0 2001} else v
theorem RS{v:Ver}(h:okV v):okV (D9 v):=by
 unfold D9
 split
 ·refine⟨h.1,?_,h.2.2⟩
  show(v.data.extract 0 2001).size≤maxLen
  rw [GF _ (by omega)];unfold maxLen;omega
 ·exact h
theorem Hh(v:Ver):(D9 v).data.size≤2001:=by
 unfold D9
 split
 ·show(v.data.extract 0 2001).size≤2001
  rw [GF _ (by omega)];omega
 ·omega
def Ga(l:List Ver):List Ver:=(l.take 21).map D9
theorem Q.set{a b:World}(h:Q a b){g k:Nat}(hg:a.heap.size≤g)(u:Value):Q a (b.setCell ⟨g,k,none⟩ u):=Below.setCell h hg u
theorem RR(v:Ver)(w:World)(h:okV v):
  Calls Tryz.prog 20 #[ver v] w fun e w'=>e=.returned (ver (D9 v))∧Q w w':=by
 obtain⟨h1,h2,h3⟩:=h
 unfold maxLen at h2
 obtain⟨i,d,m,t⟩:=v
 simp only at h1 h2 h3
 by_cases hb:2001<d.size
 ·have HV:Hid (D9 ⟨i,d,m,t⟩=⟨i,d.extract 0 2001,m,t⟩):=AC (by rw [D9,if_pos hb])
  rw [ver]
  simp only
  have hb2:(2001:Int)<(d.size:Int):=by omega
  go_enter Tryz.func20,Tryz.ntmps20
  go_wp2
  (try simp only [Exit.inBlock,Exit.then])
  refine bodyPost_ret (v:=.agg #[.int .u64 (i:Nat),.string (d.extract 0 2001),.bool m,.int .i64 t]) ?_ rfl ?_
  ·simp [results,Tryz.results20,go_sem]
  ·exact⟨by rw [HV.out];rfl,((Q.refl w).alloc _).alloc _⟩
 ·have HV:Hid (D9 ⟨i,d,m,t⟩=⟨i,d,m,t⟩):=AC (by rw [D9,if_neg hb])
  rw [ver]
  simp only
  have hb2:¬ (2001:Int)<(d.size:Int):=by omega
  go_enter Tryz.func20,Tryz.ntmps20
  go_wp2
  (try simp only [Exit.inBlock,Exit.then])
  refine bodyPost_ret (v:=.agg #[.int .u64 (i:Nat),.string d,.bool m,.int .i64 t]) ?_ rfl ?_
  ·simp [results,Tryz.results20,go_sem]
  ·exact⟨by rw [HV.out];rfl,((Q.refl w).alloc _).alloc _⟩
theorem Pw(l:List Ver)(i:Nat)(h:i<l.length):(l.take (i+1)).map D9=(l.take i).map D9 ++ [D9 l[i]]:=by
 rw [List.take_succ_eq_append_getElem h,List.map_append];rfl
theorem Rr(l:List Ver)(v:Value)(w:World)(hl:l.length≤maxLen)(ht:Vers w w.heap.size v l):
  Calls Tryz.prog 72 #[v] w fun e w'=>∃ v',e=.returned v'∧OwnV w.heap.size w' v' (Ga l)∧Q w w':=by
 obtain⟨A,c,rfl,-,-,hok,hcells⟩:=ht
 unfold maxLen at hl
 have HC:=AC hcells
 have HK:=AC hok
 clear hcells hok
 obtain⟨i0,hi,hz0,hz1,hz2⟩:=info_parts EP
 go_enter Tryz.func72,Tryz.ntmps72
 go_wp2_with fail
 go_loopw [3,4] (fun O I wr=>∃ i:Nat,i≤l.length∧i≤21∧I=.int .i64 i∧OwnV w.heap.size wr O ((l.take i).map D9)∧Below w.heap.size w wr) (fun _ I _=>21 - (intOf I).toNat)
 case atStart=>exact⟨0,Nat.zero_le _,by omega,rfl,OwnV.nil _ _,Below.refl _ _⟩
 case round=>
  obtain⟨i,hil,hi21,rfl,hown,hbel⟩:=hrel
  by_cases hlt:i<l.length
  ·by_cases h21:i<21
   ·obtain⟨a,rfl,ha,hat⟩:=HC.out i hlt
    obtain⟨c0,c1,c2,c3⟩:=hat.keep (by rw [AG];exact ha) fun _ hp=>hbel.cell hp
    clear hat
    have HW:=AC (Pw l i hlt)
    have hx0:=HK.out _ (List.getElem_mem hlt)
    have hlen:((l.take i).map D9).length≤21:=by rw [List.length_map,List.length_take];omega
    obtain⟨x,hx⟩:∃ x,x=l[i]:=⟨_,rfl⟩
    rw [← hx] at c0 c1 c2 c3 HW hx0
    clear hx
    have hs:=hbel.size
    have C:=AC fun w=>RR x w hx0
    rw [ver] at C
    go_wp2_with fail
    refine(C.out _).mono ?_
    rintro e w1 ⟨rfl,q1⟩
    have bel1:Below w.heap.size w w1:=hbel.trans (Below.mono q1 hs)
    have hown1:OwnV w.heap.size w1 _ _:=OwnV.on hown q1
    have hs1:=bel1.size
    rw [ver]
    go_wp2_with (first | (at_builtin;refine wpList_append_own _ rfl _ _ 77 rfl w.heap.size 49 i0 (.agg #[.int .u64 0,.string ⟨#[]⟩,.bool false,.int .i64 0]) 4 40 Tryz.underlying77 hi hz0 hz1 hz2 rfl (by decide) _ _ _ rfl (World.ownsRow.alloc hown1 _) ⟨w1.heap.size,0,none⟩ 1 1 (Ag (D9 x)) rfl rfl (H3 _ _ _) (Df _) (by unfold maxLen;omega) (by omega) (by simp;omega) ?_;intro v1 w2 h1 h2 _;have r1:OwnV w.heap.size w2 v1 ((l.take i).map D9 ++ [D9 x]):=OwnV.onto (M:=[D9 x]) (by simpa using h1) rfl;have b1:=BA (bel1.alloc hs1 _) (by simp;omega) (World.ownsRow.alloc hown1 _) h2;rw [← HW.out] at r1;clear h1 h2))
    go_roundw
    case rel=>exact⟨i+1,by omega,by omega,by go_num,r1,b1⟩
    case measure=>simp [intOf];omega
   ·have HW:Hid (Ga l=(l.take i).map D9):=AC (by rw [Ga,show i=21 by omega])
    have h2:¬ (i:Int)<21:=by omega
    go_wp2
    go_ret
    exact⟨_,rfl,by rw [HW.out];exact hown,hbel⟩
  ·have HW:Hid (Ga l=(l.take i).map D9):=AC (by rw [Ga,List.take_of_length_le (by omega),List.take_of_length_le (by omega)])
   have h2:¬ (i:Int)<(l.length:Int):=by omega
   go_wp2
   go_ret
   exact⟨_,rfl,by rw [HW.out];exact hown,hbel⟩
end
section
open Go.ChangeShapes Go.WideShapes Go.ChangeAt Go.RowKit
def D(w w':World):Prop:=∃ m,w'=w.drewN m
theorem D.refl(w:World):D w w:=⟨0,rfl⟩
theorem D.drew{a b:World}(h:D a b):D a b.drew:=by obtain⟨m,rfl⟩:=h;exact⟨m+1,rfl⟩
theorem D.drewN{a b:World}(h:D a b)(n:Nat):D a (b.drewN n):=by obtain⟨m,rfl⟩:=h;exact⟨m+n,World.drewN_drewN _ _ _⟩
theorem D.trans{a b c:World}(h:D a b)(k:D b c):D a c:=by obtain⟨m,rfl⟩:=h;obtain⟨n,rfl⟩:=k;exact⟨m+n,World.drewN_drewN _ _ _⟩
theorem D.q{a b:World}(h:D a b):Q a b:=by obtain⟨m,rfl⟩:=h;exact(Q.refl a).drewN m
theorem Bp{P:Program}{f:FuncId}{args:Array Value}{w:World}{n:Nat}{v:Value}
  (h:Calls P f args (w.drewN n) fun e w'=>e=.returned v∧w.drewN n=w'):Calls P f args (w.drewN n) fun e w''=>e=.returned v∧∃ m,w''=w.drewN m:=
 h.mono fun _ _ ⟨he,hm⟩=>⟨he,n,hm.symm⟩
end
section
open Go.ChangeShapes Go.WideShapes Go.ChangeAt Go.RowKit
theorem So{x y:Ver}(h:x≠y):x.id≠y.id∨(x.id=y.id∧x.data≠y.data)∨(x.id=y.id∧x.data=y.data∧x.mark≠y.mark)∨(x.id=y.id∧x.data=y.data∧x.mark=y.mark∧x.tm≠y.tm):=by
 obtain⟨a,b,c,d⟩:=x
 obtain⟨a',b',c',d'⟩:=y
 simp only [ne_eq,Ver.mk.injEq,not_and] at h ⊢
 by_cases h1:a=a'
 ·by_cases h2:b=b'
  ·by_cases h3:c=c'
   ·exact .inr (.inr (.inr ⟨h1,h2,h3,h h1 h2 h3⟩))
   ·exact .inr (.inr (.inl ⟨h1,h2,h3⟩))
  ·exact .inr (.inl ⟨h1,h2⟩)
 ·exact .inl h1
theorem Rf{a b:List Ver}{i:Nat}(h:i<a.length)(k:i<b.length)(n:a[i]≠b[i]):a≠b:=by
 rintro rfl;exact n rfl
def On(a b:List Ver)(A:Bool):Prop:=(A=true∧a=b)∨(A=false∧a≠b)
theorem Hb{a b:List Ver}{A:Bool}(h:On a b A)(e:a=b):A=true:=by
 rcases h with⟨h,-⟩ | ⟨-,h⟩
 ·exact h
 ·exact absurd e h
theorem JF{a b:List Ver}{A:Bool}(h:On a b A)(e:a≠b):A=false:=by
 rcases h with⟨-,h⟩ | ⟨h,-⟩
 ·exact absurd h e
 ·exact h
theorem L5(a b:List Ver)(va vb:Value)(w:World)(R:Bool)(hR:On a b R)(hl:a.length≤1000)(hlb:b.length≤1000)(ha:Vers w w.heap.size va a)(hb:Vers w w.heap.size vb b):
  Calls Tryz.prog 91 #[va,vb] w fun e w'=>e=.returned (.bool R)∧D w w':=by
 obtain⟨A,c,rfl,-,-,-,hca⟩:=ha
 obtain⟨B,c',rfl,-,-,-,hcb⟩:=hb
 have HA:=AC hca
 have HB:=AC hcb
 have HR:=AC hR
 clear hca hcb hR
 by_cases he:a.length=b.length
 ·have hen:((a.length:Int) != (b.length:Int))=false:=by simp [he]
  have HE:=AC he
  clear he
  go_enter Tryz.func91,Tryz.ntmps91
  go_wp2_with fail
  go_loopw [5] (fun I wr=>∃ i:Nat,i≤a.length∧I=.int .i64 i∧D w wr∧Hid (a.take i=b.take i)) (fun I _=>a.length - (intOf I).toNat)
  case atStart=>exact⟨0,Nat.zero_le _,rfl,D.refl _,AC (by simp)⟩
  case round=>
   obtain⟨i,hil,rfl,d,HT⟩:=hrel
   by_cases hlt:i<a.length
   ·have hlb2:i<b.length:=by rw [← HE.out];exact hlt
    obtain⟨p,rfl,hp,hat⟩:=HA.out i hlt
    obtain⟨q,rfl,hq,hbt⟩:=HB.out i hlb2
    obtain⟨m,rfl⟩:=d
    obtain⟨c0,c1,c2,c3⟩:=hat
    obtain⟨d0,d1,d2,d3⟩:=hbt
    have h2:(i:Int)<(b.length:Int):=by omega
    by_cases hxy:a[i]=b[i]
    ·have HT2:Hid (a.take (i+1)=b.take (i+1)):=AC (by rw [List.take_succ_eq_append_getElem hlt,List.take_succ_eq_append_getElem hlb2,HT.out,hxy])
     rw [← hxy] at d0 d1 d2 d3
     obtain⟨x,hx⟩:∃ x,x=a[i]:=⟨_,rfl⟩
     rw [← hx] at c0 c1 c2 c3 d0 d1 d2 d3
     clear hx hxy
     go_wp2_with fail
     go_region
     go_wp2
     go_roundw
     case rel=>exact⟨i+1,by omega,by go_num,⟨m+1,by simp [Nat.add_comm]⟩,HT2⟩
     case measure=>simp [intOf];omega
    ·have HV:=AC (JF HR.out (Rf hlt hlb2 hxy))
     have hne:=So hxy
     obtain⟨x,hx⟩:∃ x,x=a[i]:=⟨_,rfl⟩
     obtain⟨y,hy⟩:∃ y,y=b[i]:=⟨_,rfl⟩
     rw [← hx] at c0 c1 c2 c3 hne
     rw [← hy] at d0 d1 d2 d3 hne
     clear hx hy hxy
     obtain⟨xi,xd,xm,xt⟩:=x
     obtain⟨yi,yd,ym,yt⟩:=y
     simp only at c0 c1 c2 c3 d0 d1 d2 d3 hne
     rcases hne with h | ⟨rfl,h⟩ | ⟨rfl,rfl,h⟩ | ⟨rfl,rfl,rfl,h⟩
     ·have h':¬ ((xi:Int)=(yi:Int)):=by omega
      clear h
      go_wp2_with fail
      go_region
      go_wp2
      go_ret
      exact⟨AE (by rw [HV.out]),(D.drewN ⟨m,rfl⟩ 1)⟩
     ·have h':¬ (xd.toList=yd.toList):=fun e=>h (FL (by rw [← BQ,← BQ,e]))
      clear h
      go_wp2_with fail
      go_region
      go_wp2
      go_ret
      exact⟨AE (by rw [HV.out]),(D.drewN ⟨m,rfl⟩ 1)⟩
     ·skip
      go_wp2_with fail
      go_region
      go_wp2
      go_ret
      exact⟨AE (by rw [HV.out]),(D.drewN ⟨m,rfl⟩ 1)⟩
     ·skip
      go_wp2_with fail
      go_region
      go_wp2
      go_ret
      exact⟨AE (by rw [HV.out]),(D.drewN ⟨m,rfl⟩ 1)⟩
   ·have HV:=AC (Hb HR.out (by have:=HT.out;rw [List.take_of_length_le (by omega),List.take_of_length_le (by have:=HE.out;omega)] at this;exact this))
    go_wp2
    go_ret
    exact⟨AE (by rw [HV.out]),d⟩
 ·have HV:=AC (JF HR.out (fun e=>he (congrArg List.length e)))
  have hen:((a.length:Int) != (b.length:Int))=true:=by
   have:¬ (a.length:Int)=(b.length:Int):=by omega
   simpa using this
  clear he
  go_enter Tryz.func91,Tryz.ntmps91
  go_wp2
  go_ret
  exact⟨AE (by rw [HV.out]),D.refl _⟩
end
end Go.Proofs.YtjjlbbfhmpbneaaGreat
