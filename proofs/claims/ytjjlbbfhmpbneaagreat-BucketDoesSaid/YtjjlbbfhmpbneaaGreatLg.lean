/-
  Contract of the program's without. Contracts of the program's laying, ahead and over. Contract of the program's over; what without comes to. Contracts of the program's mayLay, Put, Drop and Delete. Contract of the program's Put. Contracts of the program's Put, Drop and Delete, whole. Plain facts on chains that may be.
-/
import Derived.Test.YtjjlbbfhmpbneaaGreatLf
import Derived.Deep.RegionHeld3
import Derived.Maps.OwnSet
import Derived.Deep.QuietTactic
import Derived.BigQuiet
namespace Go.Proofs.YtjjlbbfhmpbneaaGreat
open AllReadyH renaming cons → aC, nil → aN
open Lib renaming hid → AC
set_option maxHeartbeats 16000000
set_option maxRecDepth 100000
set_option linter.unusedVariables false
set_option linter.unusedSimpArgs false
section
open Go.ChangeShapes Go.WideShapes Go.ChangeAt Go.RowKit
theorem OwnV.lower{base b2:Nat}{w:World}{v:Value}{l:List Ver}(h:OwnV base w v l)(k:b2≤base):OwnV b2 w v l:=by
 obtain⟨o1,o2⟩:=h
 refine⟨o1,?_⟩
 rcases o2 with h | ⟨g,cap,cur,e,hb,r⟩
 ·exact .inl h
 ·exact .inr ⟨g,cap,cur,e,Nat.le_trans k hb,r⟩
theorem add_add(a:Addr)(m n:Nat):(a.add m).add n=a.add (m+n):=by
 by_cases hm:m=0
 ·subst hm
  rw [show a.add 0=a by cases a;simp [Addr.add],Nat.zero_add]
 ·by_cases hn:n=0
  ·subst hn
   rw [Nat.add_zero]
   rw [Ai a (by omega:0<m)]
   simp [Addr.add]
  ·rw [Ai a (by omega:0<m),Ai _ (by omega:0<n),Ai a (by omega:0<m+n)]
   simp [Nat.add_assoc]
theorem Vers.cutTake{w:World}{B:Nat}{a:Addr}{n c:Nat}{l:List Ver}(h:Vers w B (.slice (some a) n c) l){i:Nat}(hi:i≤l.length):Vers w B (.slice (some a) i c) (l.take i):=by
 obtain⟨A,c',e,e0,ez,eo,f⟩:=h
 injection e with e1 e2 e3
 subst e1 e2 e3
 have hlen:(l.take i).length=i:=by rw [List.length_take];omega
 refine⟨_,_,by rw [hlen],by omega,ez,fun x hx=>eo x (List.mem_of_mem_take hx),fun k hk=>?_⟩
 obtain⟨a',e1,e2,e3⟩:=f k (by omega)
 exact⟨a',e1,e2,by rw [List.getElem_take];exact e3⟩
theorem Vers.cutDrop{w:World}{B:Nat}{a:Addr}{n c:Nat}{l:List Ver}(h:Vers w B (.slice (some a) n c) l){i:Nat}(hi:i≤l.length):Vers w B (.slice (some (a.add (i*4))) (l.length - i) (c - i)) (l.drop i):=by
 obtain⟨A,c',e,e0,ez,eo,f⟩:=h
 injection e with e1 e2 e3
 subst e1 e2 e3
 have hlen:(l.drop i).length=l.length - i:=by rw [List.length_drop]
 refine⟨_,_,by rw [hlen],by omega,(by simp),fun x hx=>eo x (List.mem_of_mem_drop hx),fun k hk=>?_⟩
 rw [hlen] at hk
 obtain⟨a',e1,e2,e3⟩:=f (i+k) (by omega)
 injection e1 with e1
 subst e1
 refine⟨_,rfl,by rw [AG];exact e2,?_⟩
 rw [add_add,List.getElem_drop,← Nat.add_mul];exact e3
theorem Vers.cutEnd{w:World}{B:Nat}{a:Addr}{l:List Ver}(hl:l=[]):Vers w B (.slice (some a) 0 0) l:=by
 subst hl
 exact⟨_,_,rfl,Nat.le_refl _,(by simp),by simp,fun k h=>absurd h (by simp)⟩
theorem GA(l:List Ver)(a:Addr)(c:Nat)(i:Nat)(w:World)(hi:i<l.length)(hl:l.length≤1000)(ht:Vers w w.heap.size (.slice (some a) l.length c) l)(hc:c=i+1):
  Calls Tryz.prog 160 #[.slice (some a) l.length c,.int .i64 (i:Nat)] w fun e w'=>∃ v',e=.returned v'∧OwnV w.heap.size w' v' (l.take i++l.drop (i+1))∧Q w w':=by
 have hlc:l.length≤c:=by
  obtain⟨A,c',e,e0,-⟩:=ht
  injection e with e1 e2 e3
  omega
 have T1:=AC (ht.cutTake (i:=i) (by omega))
 subst hc
 have T2:Hid (Vers w w.heap.size (.slice (some a) 0 0) (l.drop (i+1))):=AC (by exact Vers.cutEnd (List.drop_eq_nil_iff.2 (by omega)))
 have q0:Q w w.drew:=(Q.refl w).drew
 have SN:Hid ((fun w'=>Q w w') w.drew):=AC q0
 have hw2:IntKind.i64.wrap ((i:Int)+1)=(i:Int)+1:=by rw [IntKind.wrap_i64];omega
 have hw:wrap64 ((i:Int)+1)=(i:Int)+1:=by unfold wrap64;omega
 have hi0:(0:Int)≤(i:Int):=by omega
 have hi1:(i:Int)≤((i+1:Nat):Int):=by omega
 have hi2:(0:Int)≤(i:Int)+1:=by omega
 have hi3:(i:Int)+1≤(l.length:Int):=by omega
 have hn1:((i:Int)+1).toNat=i+1:=by omega
 clear ht
 go_enter Tryz.func160,Tryz.ntmps160
 go_wp2_with fail
 refine wp_region_held_drew (S:=(fun w'=>Q w w')) (by kernel_rfl) SN.out (fun hHeld=>?_)
 refine tkV 0 ?_
 refine tkV 1 ?_
 refine tkB 2 (.slice (some a) i (i+1)) ?_
 refine tkV 3 ?_
 refine tkV 4 ?_
 refine tkB 5 (.int .i64 ((i:Int)+1)) ?_
 refine tkB 6 (.slice (some a) 0 0) ?_
 refine aR [7] ?_
 refine aC rfl (fun K hK=>?_) aN
 go_simp
 refine hK.out _ _ ((Q.refl w).alloc _).drew (fun hHeld=>?_)
 clear hK K
 refine pg ?_
 refine aR [8] ?_
 refine aC rfl (fun K hK=>?_) aN
 go_simp
 go_at_call 179
 refine(Dr w.heap.size _ _ (l.take i) (l.drop (i+1)) (w.alloc (.cells #[.slice (some a) i (i+1),.slice (some a) 0 0] 207)).drew (by simp [go_sem]) (by simp [go_sem]) (by simp) (T1.out.on ((Q.refl w).alloc _).drew) (T2.out.on ((Q.refl w).alloc _).drew) (by rw [List.length_take];omega) (by rw [List.length_drop];omega)).mono ?_
 rintro e w' ⟨v',rfl,ho,q1⟩
 have qq:=((Q.refl w).alloc _).drew.trans q1
 refine hK.out _ _ qq (fun hHeld=>?_)
 clear hK K
 refine pg ?_
 refine tkV 9 ?_
 refine wpAnyH_done (by kernel_rfl) ?_ _
 go_wp2
 go_ret
 exact⟨_,rfl,OwnV.lower ho (by simp),qq⟩
theorem G4(l:List Ver)(a:Addr)(c:Nat)(i:Nat)(w:World)(hi:i<l.length)(hl:l.length≤1000)(ht:Vers w w.heap.size (.slice (some a) l.length c) l)(hc:c≠i+1):
  Calls Tryz.prog 160 #[.slice (some a) l.length c,.int .i64 (i:Nat)] w fun e w'=>∃ v',e=.returned v'∧OwnV w.heap.size w' v' (l.take i++l.drop (i+1))∧Q w w':=by
 have hlc:l.length≤c:=by
  obtain⟨A,c',e,e0,-⟩:=ht
  injection e with e1 e2 e3
  omega
 have T1:=AC (ht.cutTake (i:=i) (by omega))
 have T2:=AC (ht.cutDrop (i:=i+1) (by omega))
 have q0:Q w w.drew:=(Q.refl w).drew
 have SN:Hid ((fun w'=>Q w w') w.drew):=AC q0
 have hw2:IntKind.i64.wrap ((i:Int)+1)=(i:Int)+1:=by rw [IntKind.wrap_i64];omega
 have hw:wrap64 ((i:Int)+1)=(i:Int)+1:=by unfold wrap64;omega
 have hi0:(0:Int)≤(i:Int):=by omega
 have hi1:(i:Int)≤((c:Nat):Int):=by omega
 have hi2:(0:Int)≤(i:Int)+1:=by omega
 have hi3:(i:Int)+1≤(l.length:Int):=by omega
 have hn1:((i:Int)+1).toNat=i+1:=by omega
 clear ht
 go_enter Tryz.func160,Tryz.ntmps160
 go_wp2_with fail
 refine wp_region_held_drew (S:=(fun w'=>Q w w')) (by kernel_rfl) SN.out (fun hHeld=>?_)
 refine tkV 0 ?_
 refine tkV 1 ?_
 refine tkB 2 (.slice (some a) i c) ?_
 refine tkV 3 ?_
 refine tkV 4 ?_
 refine tkB 5 (.int .i64 ((i:Int)+1)) ?_
 refine tkB 6 (.slice (some (a.add ((i+1)*4))) (l.length - (i+1)) (c - (i+1))) ?_
 refine aR [7] ?_
 refine aC rfl (fun K hK=>?_) aN
 go_simp
 refine hK.out _ _ ((Q.refl w).alloc _).drew (fun hHeld=>?_)
 clear hK K
 refine pg ?_
 refine aR [8] ?_
 refine aC rfl (fun K hK=>?_) aN
 go_simp
 go_at_call 179
 refine(Dr w.heap.size _ _ (l.take i) (l.drop (i+1)) (w.alloc (.cells #[.slice (some a) i c,.slice (some (a.add ((i+1)*4))) (l.length - (i+1)) (c - (i+1))] 207)).drew (by simp [go_sem]) (by simp [go_sem]) (by simp) (T1.out.on ((Q.refl w).alloc _).drew) (T2.out.on ((Q.refl w).alloc _).drew) (by rw [List.length_take];omega) (by rw [List.length_drop];omega)).mono ?_
 rintro e w' ⟨v',rfl,ho,q1⟩
 have qq:=((Q.refl w).alloc _).drew.trans q1
 refine hK.out _ _ qq (fun hHeld=>?_)
 clear hK K
 refine pg ?_
 refine tkV 9 ?_
 refine wpAnyH_done (by kernel_rfl) ?_ _
 go_wp2
 go_ret
 exact⟨_,rfl,OwnV.lower ho (by simp),qq⟩
theorem EZ(l:List Ver)(v:Value)(i:Nat)(w:World)(hi:i<l.length)(hl:l.length≤1000)(ht:Vers w w.heap.size v l):
  Calls Tryz.prog 160 #[v,.int .i64 (i:Nat)] w fun e w'=>∃ v',e=.returned v'∧OwnV w.heap.size w' v' (l.take i++l.drop (i+1))∧Q w w':=by
 have ht':=ht
 obtain⟨A,c,rfl,-,-,-,f⟩:=ht
 obtain⟨a,rfl,-⟩:=f i hi
 by_cases hc:c=i+1
 ·exact GA l a c i w hi hl ht' hc
 ·exact G4 l a c i w hi hl ht' hc
end
section
open Go.ChangeShapes Go.WideShapes Go.ChangeAt Go.RowKit
def fnV(g:Nat):Value:=.func (.func g) #[] #[]
def lay0:Array MapEntry:=#[]
def lay1:Array MapEntry:=lay0.push ⟨.int .i64 0,fnV 177,0⟩
def lay2:Array MapEntry:=lay1.push ⟨.int .i64 1,fnV 178,1⟩
def lay3:Array MapEntry:=lay2.push ⟨.int .i64 2,fnV 177,2⟩
abbrev OA:Nat:=204
theorem BE(w:World)(e:Bool)(k:Int):(Instr.checkKey e 10000 3 (.int .i64 k)).run Tryz.prog w=.ok () w:=by
 rw [show(10000:Nat)=9999+1 from rfl,Instr.checkKey]
 simp [run_underlying Tryz.underlying3]
open Go.ChangeMaps (setBlock)
theorem BS(w:World)(k:Int)(es:List MapEntry)(r:Option (Nat×Value))(hf:Instr.findNow (.int .i64) (.int .i64 k) es 0=some r):(Instr.findKey 3 (.int .i64 k) es).run Tryz.prog w=.ok r w:=by
 simp [Instr.findKey,run_underlying Tryz.underlying3,hf]
theorem KE(w:World)(b:Nat)(es:Array MapEntry)(clock:Nat)(k:Int)(f:Value)(hb:w.heap[b]?=some (.map es clock))(hf:Instr.findNow (.int .i64) (.int .i64 k) es.toList 0=some none):
  (Instr.mapUpdate OA (.map (some b)) (.int .i64 k) f).run Tryz.prog w=.ok () (setBlock w b (.map (es.push ⟨.int .i64 k,f,clock⟩) (clock+1))):=by
 simp [Instr.mapUpdate,run_underlying Tryz.underlying204,MapKept.run_getObj_map hb,BE,BS _ _ _ _ hf,MapKept.run_setObj_map _ hb,Result.andThen,setBlock]
theorem CT{ops:Array Oper}{rest:List Oper}{o:Oper}{a:Act}{Q:Exit→Act→World→Prop}(w:World)(hgd:o.guard=none)(m k x:Operand)(ho:o.op=.insert OA m k x)
  (b:Nat) (es:Array MapEntry) (clock:Nat) (n:Int) (f:Value) (hm:a.eval m=.map (some b)) (hk:a.eval k=.int .i64 n) (hx:a.eval x=f) (hb:w.heap[b]?=some (.map es clock)) (hf:Instr.findNow (.int .i64) (.int .i64 n) es.toList 0=some none)
  (hK:wpList Tryz.prog ops Q rest (a.put o.dst undef) (setBlock w b (.map (es.push ⟨.int .i64 n,f,clock⟩) (clock+1)))):wpList Tryz.prog ops Q (o :: rest) a w:=by
 refine wpList_plain hgd fun K' hK'=>?_
 unfold Oper.wp
 simp [execOp,ho,hm,hk,hx,KE w b es clock n f hb hf,Result.andThen]
 exact hK' _ _ hK
theorem Q.setBlock{w w':World}(h:Q w w'){b:Nat}(hb:w.heap.size≤b)(o:Obj):Q w (setBlock w' b o):=
 ⟨h.os,h.tape,h.output,Nat.le_trans h.size (by simp [ChangeMaps.setBlock]),fun i hi=>by
  refine Eq.trans ?_ (h.block i hi)
  show(w'.heap.setIfInBounds b o)[i]?=w'.heap[i]?
  rw [Array.getElem?_setIfInBounds,if_neg (by omega)]⟩
theorem BB(w:World):Calls Tryz.prog 157 #[] w fun e w'=>e=.returned (.map (some w.heap.size))∧w'.heap[w.heap.size]?=some (.map lay3 3)∧Q w w':=by
 have hmm:=@run_makeMap Tryz.prog
 go_enter Tryz.func157,Tryz.ntmps157
 have e0:(w.alloc (.map lay0 0)).heap[w.heap.size]?=some (.map lay0 0):=heap_alloc_new w _
 have e1:=ChangeMaps.heap_setBlock_same e0 (.map lay1 1)
 have e2:=ChangeMaps.heap_setBlock_same e1 (.map lay2 2)
 have e3:=ChangeMaps.heap_setBlock_same e2 (.map lay3 3)
 go_wp2_with (first
  | refine CT _ rfl _ _ _ rfl _ lay0 0 0 (fnV 177) rfl rfl rfl e0 rfl ?_
  | refine CT _ rfl _ _ _ rfl _ lay1 1 1 (fnV 178) rfl rfl rfl e1 rfl ?_
  | refine CT _ rfl _ _ _ rfl _ lay2 2 2 (fnV 177) rfl rfl rfl e2 rfl ?_)
 go_ret
 exact⟨rfl,e3,(((((Q.refl w).alloc _).setBlock (Nat.le_refl _) _).setBlock (Nat.le_refl _) _).setBlock (Nat.le_refl _) _)⟩
def Qj(s:Int):Nat:=if s=1 then 178 else 177
theorem Kk(w:World)(b:Nat)(s:Int)(hb:w.heap[b]?=some (.map lay3 3))(h0:0≤s)(h2:s≤2):
  (Instr.lookup OA (.map (some b)) (.int .i64 s) true).run Tryz.prog w=.ok (.tuple #[fnV (Qj s),.bool true]) w:=by
 have hf:∃ i,Instr.findNow (.int .i64) (.int .i64 s) lay3.toList 0=some (some (i,fnV (Qj s))):=by
  rcases(show s=0∨s=1∨s=2 by omega) with rfl | rfl | rfl
  ·exact⟨0,rfl⟩
  ·exact⟨1,rfl⟩
  ·exact⟨2,rfl⟩
 obtain⟨i,hf⟩:=hf
 simp [Instr.lookup,run_underlying Tryz.underlying204,MapKept.run_getObj_map hb,BE,BS _ _ _ _ hf,Result.andThen]
theorem Lk:∃ z,∀ w,(zeroValue 202).run Tryz.prog w=.ok z w:=by
 have h:((Tryz.prog.info? 202).bind (·.zero)).isSome=true:=by kernel_rfl
 cases hi:Tryz.prog.info? 202 with
 | none=>rw [hi] at h;simp at h
 | some i=>
   cases hz:i.zero with
   | none=>rw [hi] at h;simp [hz] at h
   | some z=>exact⟨z,fun w=>by simp [zeroValue,typeInfo,hi,hz]⟩
theorem Ip(w:World)(b:Nat)(s:Int)(hb:w.heap[b]?=some (.map lay3 3))(h:s<0∨2<s):
  ∃ z,(Instr.lookup OA (.map (some b)) (.int .i64 s) true).run Tryz.prog w=.ok (.tuple #[z,.bool false]) w:=by
 obtain⟨z,hz⟩:=Lk
 have hf:Instr.findNow (.int .i64) (.int .i64 s) lay3.toList 0=some none:=by
  have a0:(s==0)=false:=by simpa using(show ¬ s=0 by omega)
  have a1:(s==1)=false:=by simpa using(show ¬ s=1 by omega)
  have a2:(s==2)=false:=by simpa using(show ¬ s=2 by omega)
  simp [lay3,lay2,lay1,lay0,Instr.findNow,Instr.sameNow,a0,a1,a2]
 refine⟨z,?_⟩
 simp [Instr.lookup,run_underlying Tryz.underlying204,MapKept.run_getObj_map hb,BE,BS _ _ _ _ hf,hz,Result.andThen]
theorem AV{ops:Array Oper}{rest:List Oper}{o:Oper}{a:Act}{Q:Exit→Act→World→Prop}(w:World)(hgd:o.guard=none)(m x:Operand)(ho:o.op=.lookup OA m x true)
  (vm vx v:Value) (hm:a.eval m=vm) (hx:a.eval x=vx) (hr:(Instr.lookup OA vm vx true).run Tryz.prog w=.ok v w)
  (hK:wpList Tryz.prog ops Q rest (a.put o.dst v) w):wpList Tryz.prog ops Q (o :: rest) a w:=by
 refine wpList_plain hgd fun K' hK'=>?_
 unfold Oper.wp
 simp [execOp,ho,hm,hx,hr,Result.andThen]
 exact hK' _ _ hK
theorem OY(w:World)(x:Ver)(hx:okV x):Vers (w.alloc (.cells #[.int .u64 (x.id:Nat),.string x.data,.bool x.mark,.int .i64 x.tm] 49)) (w.alloc (.cells #[.int .u64 (x.id:Nat),.string x.data,.bool x.mark,.int .i64 x.tm] 49)).heap.size (.slice (some ⟨w.heap.size,0,none⟩) 1 1) [x]:=by
 refine⟨_,_,rfl,Nat.le_refl _,(by simp),(by simpa using hx),fun k hk=>⟨_,rfl,by simp,?_⟩⟩
 have hk0:k=0:=by simp at hk;omega
 subst hk0
 refine⟨?_,?_,?_,?_⟩ <;> simp [Addr.add,go_sem]
theorem FM(l:List Ver)(v:Value)(x:Ver)(w:World)(hx:okV x)(hl:l.length≤1000)(ht:Vers w w.heap.size v l):
  Calls Tryz.prog 178 #[v,ver x] w fun e w'=>∃ v',e=.returned v'∧OwnV w.heap.size w' v' (x :: l)∧Q w w':=by
 obtain⟨A,c,rfl⟩:=ht.shape
 have T:=AC ht
 have HX:=AC hx
 clear ht hx
 rw [ver]
 go_enter Tryz.func178,Tryz.ntmps178
 go_wp2_with fail
 have qa:Q w (((w.alloc (.cells #[.int .u64 (x.id:Nat),.string x.data,.bool x.mark,.int .i64 x.tm] 49)).alloc (.cells #[.int .u64 (x.id:Nat),.string x.data,.bool x.mark,.int .i64 x.tm] 49)).alloc (.cells #[.slice (some ⟨w.heap.size+1,0,none⟩) 1 1,.slice A l.length c] 207)):=(((Q.refl w).alloc _).alloc _).alloc _
 have t1:=OY (w.alloc (.cells #[.int .u64 (x.id:Nat),.string x.data,.bool x.mark,.int .i64 x.tm] 49)) x HX.out
 have t1:=t1.on ((Q.refl _).alloc (.cells #[.slice (some ⟨w.heap.size+1,0,none⟩) 1 1,.slice A l.length c] 207))
 rw [World.size_alloc w] at t1
 refine(Dr _ (.slice (some ⟨w.heap.size+1,0,none⟩) 1 1) (.slice A l.length c) [x] l _ ?h1 ?h2 ?hg t1 (T.out.on qa) (by simp) hl).mono ?_
 case h1=>simp [go_sem]
 case h2=>simp [go_sem]
 case hg=>simp
 rintro e w1 ⟨v',rfl,ho,q1⟩
 go_wp2
 go_ret
 exact⟨_,rfl,OwnV.lower ho (Q.size qa),qa.trans q1⟩
end
section
open Go.ChangeShapes Go.WideShapes Go.ChangeAt Go.RowKit
theorem F9{l:List Ver}{id:Nat}(h:∀ j (hl:j<l.length),l[j].id≠id):woV l id=l:=by
 rw [woV,List.filter_eq_self]
 intro x hx
 obtain⟨j,hj,rfl⟩:=List.getElem_of_mem hx
 simpa using h j hj
theorem Hj{l:List Ver}(h:okP l){i j:Nat}(hij:i<j)(hj:j<l.length):(l[i]'(by omega)).id≠l[j].id:=by
 intro e
 have:=(h.2 j).2.2 i hj hij (by omega)
 unfold BH at this
 by_cases h0:l[j].id=0
 ·rw [if_pos h0,decide_eq_false_iff_not] at this
  exact this (by rw [e];exact h0)
 ·rw [if_neg h0,if_neg (by rw [e];exact h0),decide_eq_false_iff_not] at this
  omega
theorem Lm{l:List Ver}(h:okP l){i:Nat}(hi:i<l.length):woV l l[i].id=l.take i++l.drop (i+1):=by
 have e:l=l.take i++l[i] :: l.drop (i+1):=by rw [List.getElem_cons_drop,List.take_append_drop]
 have h1:woV (l.take i) l[i].id=l.take i:=F9 fun j hj=>by
  rw [List.length_take] at hj
  rw [List.getElem_take]
  exact Hj h (by omega) hi
 have h2:woV (l.drop (i+1)) l[i].id=l.drop (i+1):=F9 fun j hj=>by
  rw [List.length_drop] at hj
  rw [List.getElem_drop]
  exact(Hj h (by omega) (by omega)).symm
 have h3:∀ y:Ver,y=l[i]→woV (l.take i++y :: l.drop (i+1)) l[i].id=l.take i++l.drop (i+1):=by
  intro y hy
  unfold woV at h1 h2 ⊢
  rw [List.filter_append,List.filter_cons_of_neg (by simp [hy]),h1,h2]
 exact(congrArg (fun m=>woV m l[i].id) e).trans (h3 _ rfl)
theorem OK{l:List Ver}{id:Nat}(h:∀ x∈l,okV x):∀ x∈woV l id,okV x:=fun x hx=>h x (List.mem_filter.1 hx).1
def BI(x:Ver):Ver:={x with id:=0}
theorem Gx{x:Ver}(h:okV x):okV (BI x):=⟨by show 0<18446744073709551616;omega,h.2⟩
theorem Vers.okAll{w:World}{B:Nat}{v:Value}{l:List Ver}(h:Vers w B v l):∀ x∈l,okV x:=by
 obtain⟨A,c,e,e0,ez,eo,f⟩:=h;exact eo
theorem Em(l:List Ver)(id:Nat):(∃ i,∃ h:i<l.length,Gt (fun x=>decide (x.id=id)) l=(i:Nat)∧l[i].id=id)∨(Gt (fun x=>decide (x.id=id)) l = -1∧∀ j (hl:j<l.length),l[j].id≠id):=by
 unfold Gt
 cases h:l.findIdx? (fun x=>decide (x.id=id)) with
 | some i=>
   left
   rw [List.findIdx?_eq_some_iff_getElem] at h
   obtain⟨hi,hp,hk⟩:=h
   exact⟨i,hi,rfl,by simpa using hp⟩
 | none=>
   right
   rw [List.findIdx?_eq_none_iff] at h
   exact⟨rfl,fun j hl=>by simpa using h _ (List.getElem_mem hl)⟩
theorem JK(l:List Ver)(v:Value)(x:Ver)(w:World)(hR:okP l)(hx:okV x)(hl:l.length≤1000)(ht:Vers w w.heap.size v l):
  Calls Tryz.prog 177 #[v,ver x] w fun e w'=>∃ v',e=.returned v'∧OwnV w.heap.size w' v' (BI x :: woV l 0)∧Q w w':=by
 have hok:=ht.okAll
 have P:Hid (∀ b,Q w b→Calls Tryz.prog 108 #[v,.int .u64 0] b fun e w'=>e=.returned (.int .i64 (Gt (fun x=>decide (x.id=0)) l))∧Q b w'):=AC (fun b q=>Hg l v 0 b hl (ht.on q))
 have AH:Hid (∀ (b:World) (m:List Ver) (u:Value),m.length≤1000→Vers b b.heap.size u m→Calls Tryz.prog 178 #[u,.agg #[.int .u64 0,.string x.data,.bool x.mark,.int .i64 x.tm]] b fun e w'=>∃ v',e=.returned v'∧OwnV b.heap.size w' v' (BI x :: m)∧Q b w'):=
  AC (fun b m u hm hu=>FM m u (BI x) b (Gx hx) hm hu)
 have T:=AC ht
 have qb:Q w (w.alloc (.cells #[.int .u64 0,.string x.data,.bool x.mark,.int .i64 x.tm] 49)):=(Q.refl w).alloc _
 rcases Em l 0 with⟨i,hi,hp,h0⟩ | ⟨hp,hn⟩
 ·have W:Hid (∀ b,Q w b→Calls Tryz.prog 160 #[v,.int .i64 (i:Nat)] b fun e w'=>∃ v',e=.returned v'∧OwnV b.heap.size w' v' (woV l 0)∧Q b w'):=AC (fun b q=>by
   have:=EZ l v i b hi hl (ht.on q)
   rw [← Lm hR hi,h0] at this
   exact this)
  have HO:=AC (OK (id:=0) hok)
  have HL:Hid ((woV l 0).length≤1000):=AC (Nat.le_trans (Gz l 0) hl)
  rw [hp] at P
  clear ht hok hp h0 hi
  rw [ver]
  go_enter Tryz.func177,Tryz.ntmps177
  go_wp2_with fail
  refine(P.out _ qb).mono ?_
  rintro e w1 ⟨rfl,q1⟩
  have qc:=qb.trans q1
  go_wp2_with fail
  refine(W.out _ qc).mono ?_
  rintro e w2 ⟨v2,rfl,o2,q2⟩
  obtain⟨b0,b1,b2,b3⟩:=Aa (q1.trans q2)
  have qd:=qc.trans q2
  have t2:=AC (o2.vers HO.out)
  clear o2
  go_wp2_with fail
  refine(AH.out _ _ _ HL.out t2.out).mono ?_
  rintro e w3 ⟨v3,rfl,o3,q3⟩
  go_wp2
  go_ret
  exact⟨_,rfl,OwnV.lower o3 qd.size,qd.trans q3⟩
 ·have HW:Hid (woV l 0=l):=AC (F9 hn)
  rw [hp] at P
  clear ht hok hp hn
  rw [ver]
  go_enter Tryz.func177,Tryz.ntmps177
  go_wp2_with fail
  refine(P.out _ qb).mono ?_
  rintro e w1 ⟨rfl,q1⟩
  obtain⟨b0,b1,b2,b3⟩:=Aa q1
  have qc:=qb.trans q1
  go_wp2_with fail
  refine(AH.out _ l _ hl (T.out.on qc)).mono ?_
  rintro e w3 ⟨v3,rfl,o3,q3⟩
  go_wp2
  go_ret
  exact⟨_,rfl,by rw [HW.out];exact OwnV.lower o3 qc.size,qc.trans q3⟩
end
section
open Go.ChangeShapes Go.WideShapes Go.ChangeAt Go.RowKit
inductive PutC(l:List Ver)(s:Int)(x:Ver):List Ver→Nat→Prop
 | chk:¬ okP l→PutC l s x [] 1
 | state:okP l→(s<0∨2<s)→PutC l s x [] 1
 | may:okP l→0≤s→s≤2→B9 x=false→PutC l s x [] 1
 | zero:okP l→s=1→B9 x=true→x.id=0→PutC l s x [] 1
 | late:okP l→0≤s→s≤2→B9 x=true→¬ (s=1∧x.id=0)→(∃ y m,l=y :: m∧x.tm<y.tm)→PutC l s x [] 1
 | order:okP l→s=1→B9 x=true→x.id≠0→(∀ y m,l=y :: m→y.tm≤x.tm)→l.any (fun y=>decide (x.id≤y.id))=true→PutC l s x [] 9
 | large:okP l→s=1→B9 x=true→x.id≠0→(∀ y m,l=y :: m→y.tm≤x.tm)→l.any (fun y=>decide (x.id≤y.id))=false→20≤l.length→PutC l s x [] 6
 | on:okP l→s=1→B9 x=true→x.id≠0→(∀ y m,l=y :: m→y.tm≤x.tm)→l.any (fun y=>decide (x.id≤y.id))=false→l.length<20→PutC l s x (x :: l) 0
 | large0:okP l→(s=0∨s=2)→B9 x=true→(∀ y m,l=y :: m→y.tm≤x.tm)→20≤(woV l 0).length→PutC l s x [] 6
 | over:okP l→(s=0∨s=2)→B9 x=true→(∀ y m,l=y :: m→y.tm≤x.tm)→(woV l 0).length<20→PutC l s x (BI x :: woV l 0) 0
theorem GM(l:List Ver)(s:Int)(x:Ver):∃ L c,PutC l s x L c:=by
 by_cases h1:okP l
 ·by_cases h2:s<0∨2<s
  ·exact⟨_,_,.state h1 h2⟩
  ·cases h3:B9 x with
   | false=>exact⟨_,_,.may h1 (by omega) (by omega) h3⟩
   | true=>
     by_cases h4:s=1∧x.id=0
     ·exact⟨_,_,.zero h1 h4.1 h3 h4.2⟩
     ·by_cases h5:∃ y m,l=y :: m∧x.tm<y.tm
      ·exact⟨_,_,.late h1 (by omega) (by omega) h3 h4 h5⟩
      ·have h5':∀ y m,l=y :: m→y.tm≤x.tm:=fun y m e=>by
        by_cases h:x.tm<y.tm
        ·exact absurd ⟨y,m,e,h⟩ h5
        ·omega
       by_cases h6:s=1
       ·cases h7:l.any (fun y=>decide (x.id≤y.id)) with
        | true=>exact⟨_,_,.order h1 h6 h3 (fun e=>h4 ⟨h6,e⟩) h5' h7⟩
        | false=>
          by_cases h8:20≤l.length
          ·exact⟨_,_,.large h1 h6 h3 (fun e=>h4 ⟨h6,e⟩) h5' h7 h8⟩
          ·exact⟨_,_,.on h1 h6 h3 (fun e=>h4 ⟨h6,e⟩) h5' h7 (by omega)⟩
       ·by_cases h8:20≤(woV l 0).length
        ·exact⟨_,_,.large0 h1 (by omega) h3 h5' h8⟩
        ·exact⟨_,_,.over h1 (by omega) h3 h5' (by omega)⟩
 ·exact⟨_,_,.chk h1⟩
theorem Ki(v:Value)(s:Int)(x:Ver)(w:World)(hm:B9 x=false):
  Calls Tryz.prog 158 #[v,.int .i64 s,ver x] w fun e w'=>e=.returned (.bool false)∧Q w w':=by
 have C:=AC (fun b=>Bt x b)
 rw [hm,ver] at C
 have qb:Q w (w.alloc (.cells #[.int .u64 (x.id:Nat),.string x.data,.bool x.mark,.int .i64 x.tm] 49)):=(Q.refl w).alloc _
 clear hm
 rw [ver]
 go_enter Tryz.func158,Tryz.ntmps158
 go_wp2_with fail
 refine(C.out _).mono ?_
 rintro e w1 ⟨rfl,q1⟩
 go_wp2
 go_ret
 exact⟨rfl,qb.trans q1⟩
theorem Io(v:Value)(x:Ver)(w:World)(hm:B9 x=true)(h0:x.id=0):
  Calls Tryz.prog 158 #[v,.int .i64 1,ver x] w fun e w'=>e=.returned (.bool false)∧Q w w':=by
 have C:=AC (fun b=>Bt x b)
 rw [hm,ver] at C
 have qb:Q w (w.alloc (.cells #[.int .u64 (x.id:Nat),.string x.data,.bool x.mark,.int .i64 x.tm] 49)):=(Q.refl w).alloc _
 have h0':((x.id:Int)==0)=true:=by simp [h0]
 clear hm h0
 rw [ver]
 go_enter Tryz.func158,Tryz.ntmps158
 go_wp2_with fail
 refine(C.out _).mono ?_
 rintro e w1 ⟨rfl,q1⟩
 obtain⟨b0,b1,b2,b3⟩:=Aa q1
 go_wp2
 go_ret
 exact⟨rfl,qb.trans q1⟩
theorem Kh(l:List Ver)(v:Value)(s:Int)(x:Ver)(w:World)(hm:B9 x=true)(hz:¬ (s=1∧x.id=0))(hn:l=[])(ht:Vers w w.heap.size v l):
  Calls Tryz.prog 158 #[v,.int .i64 s,ver x] w fun e w'=>e=.returned (.bool true)∧Q w w':=by
 have C:=AC (fun b=>Bt x b)
 rw [hm,ver] at C
 have qb:Q w (w.alloc (.cells #[.int .u64 (x.id:Nat),.string x.data,.bool x.mark,.int .i64 x.tm] 49)):=(Q.refl w).alloc _
 have T:=AC ht
 subst hn
 obtain⟨A,c,rfl⟩:=ht.shape
 simp only [List.length_nil] at T ⊢
 clear hm ht
 have hzz:(s==1)=false∨(s=1∧((x.id:Int)==0)=false):=by
  by_cases h:s=1
  ·right;exact⟨h,by
             have:¬ (x.id:Int)=0:=fun e=>hz ⟨h,by omega⟩
             simpa using this⟩
  ·left;simpa using h
 clear hz
 rw [ver]
 rcases hzz with hz | ⟨rfl,hz⟩
 all_goals
  go_enter Tryz.func158,Tryz.ntmps158
  go_wp2_with fail
  refine(C.out _).mono ?_
  rintro e w1 ⟨rfl,q1⟩
  obtain⟨b0,b1,b2,b3⟩:=Aa q1
  have qc:=qb.trans q1
  go_wp2_with fail
  go_quiet (fail)
  go_wp2
  go_ret
  exact⟨rfl,qc.drewN _⟩
theorem Kg(l:List Ver)(v:Value)(s:Int)(x:Ver)(w:World)(hm:B9 x=true)(hz:¬ (s=1∧x.id=0))(h0:0<l.length)(htm:l[0].tm≤x.tm)(ht:Vers w w.heap.size v l):
  Calls Tryz.prog 158 #[v,.int .i64 s,ver x] w fun e w'=>e=.returned (.bool true)∧Q w w':=by
 have C:=AC (fun b=>Bt x b)
 rw [hm,ver] at C
 have qb:Q w (w.alloc (.cells #[.int .u64 (x.id:Nat),.string x.data,.bool x.mark,.int .i64 x.tm] 49)):=(Q.refl w).alloc _
 have T:=AC ht
 obtain⟨A,c,rfl,-,-,-,f⟩:=ht
 obtain⟨a,rfl,ha,hat⟩:=f 0 h0
 rw [Nat.zero_mul,show a.add 0=a by cases a;simp [Addr.add]] at hat
 have HA:Hid (∀ b,Q w b→b.cell? ⟨a.block,a.off+3,none⟩=some (.int .i64 l[0].tm)):=AC (fun b q=>(hat.keep ha fun _ hp=>q.cell hp).2.2.2)
 have hlp:(0:Int)<(l.length:Int):=by omega
 have hl0:((l.length:Int)==0)=false:=by
  have:¬ (l.length:Int)=0:=by omega
  simpa using this
 obtain⟨y,hy⟩:∃ y,y=l[0].tm:=⟨_,rfl⟩
 rw [← hy] at HA htm
 clear f hat hy T
 have hd:decide (y≤x.tm)=true:=decide_eq_true htm
 clear hm
 have hzz:(s==1)=false∨(s=1∧((x.id:Int)==0)=false):=by
  by_cases h:s=1
  ·right;exact⟨h,by
             have:¬ (x.id:Int)=0:=fun e=>hz ⟨h,by omega⟩
             simpa using this⟩
  ·left;simpa using h
 clear hz
 rw [ver]
 rcases hzz with hz | ⟨rfl,hz⟩
 all_goals
  go_enter Tryz.func158,Tryz.ntmps158
  go_wp2_with fail
  refine(C.out _).mono ?_
  rintro e w1 ⟨rfl,q1⟩
  obtain⟨b0,b1,b2,b3⟩:=Aa q1
  have qc:=qb.trans q1
  have c3:=HA.out _ qc
  go_wp2_with fail
  go_quiet (fail)
  go_wp2
  go_ret
  exact⟨by first | rfl | simp [htm],qc.drewN _⟩
theorem Mk(l:List Ver)(v:Value)(s:Int)(x:Ver)(w:World)(hm:B9 x=true)(hz:¬ (s=1∧x.id=0))(h0:0<l.length)(htm:x.tm<l[0].tm)(ht:Vers w w.heap.size v l):
  Calls Tryz.prog 158 #[v,.int .i64 s,ver x] w fun e w'=>e=.returned (.bool false)∧Q w w':=by
 have C:=AC (fun b=>Bt x b)
 rw [hm,ver] at C
 have qb:Q w (w.alloc (.cells #[.int .u64 (x.id:Nat),.string x.data,.bool x.mark,.int .i64 x.tm] 49)):=(Q.refl w).alloc _
 have T:=AC ht
 obtain⟨A,c,rfl,-,-,-,f⟩:=ht
 obtain⟨a,rfl,ha,hat⟩:=f 0 h0
 rw [Nat.zero_mul,show a.add 0=a by cases a;simp [Addr.add]] at hat
 have HA:Hid (∀ b,Q w b→b.cell? ⟨a.block,a.off+3,none⟩=some (.int .i64 l[0].tm)):=AC (fun b q=>(hat.keep ha fun _ hp=>q.cell hp).2.2.2)
 have hlp:(0:Int)<(l.length:Int):=by omega
 have hl0:((l.length:Int)==0)=false:=by
  have:¬ (l.length:Int)=0:=by omega
  simpa using this
 obtain⟨y,hy⟩:∃ y,y=l[0].tm:=⟨_,rfl⟩
 rw [← hy] at HA htm
 clear f hat hy T
 have htm':¬ y≤x.tm:=by omega
 have hd:decide (y≤x.tm)=false:=decide_eq_false htm'
 clear hm
 have hzz:(s==1)=false∨(s=1∧((x.id:Int)==0)=false):=by
  by_cases h:s=1
  ·right;exact⟨h,by
             have:¬ (x.id:Int)=0:=fun e=>hz ⟨h,by omega⟩
             simpa using this⟩
  ·left;simpa using h
 clear hz
 rw [ver]
 rcases hzz with hz | ⟨rfl,hz⟩
 all_goals
  go_enter Tryz.func158,Tryz.ntmps158
  go_wp2_with fail
  refine(C.out _).mono ?_
  rintro e w1 ⟨rfl,q1⟩
  obtain⟨b0,b1,b2,b3⟩:=Aa q1
  have qc:=qb.trans q1
  have c3:=HA.out _ qc
  go_wp2_with fail
  go_quiet (fail)
  go_wp2
  go_ret
  exact⟨by first | rfl | simp [htm'],qc.drewN _⟩
end
section
open Go.ChangeShapes Go.WideShapes Go.ChangeAt Go.RowKit
theorem Ev(s:Int)(h:s<0∨2<s):∃ z,Hid (∀ w b,w.heap[b]?=some (.map lay3 3)→(Instr.lookup OA (.map (some b)) (.int .i64 s) true).run Tryz.prog w=.ok (.tuple #[z,.bool false]) w):=by
 obtain⟨z,hz⟩:=Lk
 refine⟨z,AC fun w b hb=>?_⟩
 obtain⟨z',hz'⟩:=Ip w b s hb h
 have:z'=z:=by
  have hf:Instr.findNow (.int .i64) (.int .i64 s) lay3.toList 0=some none:=by
   have a0:(s==0)=false:=by simpa using(show ¬ s=0 by omega)
   have a1:(s==1)=false:=by simpa using(show ¬ s=1 by omega)
   have a2:(s==2)=false:=by simpa using(show ¬ s=2 by omega)
   simp [lay3,lay2,lay1,lay0,Instr.findNow,Instr.sameNow,a0,a1,a2]
  simp [Instr.lookup,run_underlying Tryz.underlying204,MapKept.run_getObj_map hb,BE,BS _ _ _ _ hf,hz,Result.andThen] at hz'
  exact hz'.symm
 rw [this] at hz'
 exact hz'
theorem Bv(w:World)(b:Nat)(s:Int)(g:Nat)(hg:Qj s=g)(hb:w.heap[b]?=some (.map lay3 3))(h0:0≤s)(h2:s≤2):
  (Instr.lookup OA (.map (some b)) (.int .i64 s) true).run Tryz.prog w=.ok (.tuple #[.func (.func g) #[] #[],.bool true]) w:=by
 rw [Kk w b s hb h0 h2,fnV,hg]
theorem RK(l:List Ver)(v:Value)(s:Int)(x:Ver)(w:World)(hR:¬ okP l)(h0:0≤s)(h2:s≤2)(hl:l.length≤900)(hx:okV x)(ht:Vers w w.heap.size v l):
  Calls Tryz.prog 120 #[v,.int .i64 s,ver x] w fun e w'=>∃ v',e=.returned (.tuple #[v',.int .i64 1])∧OwnV w.heap.size w' v' []∧Q w w':=by
 have hmf:=@HMF
 have qa:Q w (w.alloc (.cells #[.int .u64 (x.id:Nat),.string x.data,.bool x.mark,.int .i64 x.tm] 49)):=(Q.refl w).alloc _
 have LA:=BB (w.alloc (.cells #[.int .u64 (x.id:Nat),.string x.data,.bool x.mark,.int .i64 x.tm] 49))
 rw [World.size_alloc] at LA
 have LA:=AC LA
 have CK:Hid (∀ b,Q w b→Calls Tryz.prog 94 #[v] b fun e w'=>e=.returned (.int .i64 1)∧Q b w'):=AC (fun b q=>FH l v b hR (by omega) (ht.on q))
 clear hR
 rw [ver]
 go_enter Tryz.func120,Tryz.ntmps120
 go_wp2_with fail
 refine(LA.out).mono ?_
 rintro e w1 ⟨rfl,hm1,q1⟩
 have qb:=qa.trans q1
 have LK:=Bv w1 (w.heap.size+1) s _ rfl hm1 h0 h2
 go_wp2_with (refine AV _ rfl _ _ rfl _ _ _ rfl rfl LK ?_)
 refine(CK.out _ qb).mono ?_
 rintro e w2 ⟨rfl,q2⟩
 have qc:=qb.trans q2
 go_wp2
 go_ret2
 exact⟨_,rfl,OwnV.nil _ _,qc⟩
theorem O2(l:List Ver)(v:Value)(s:Int)(x:Ver)(w:World)(hR:¬ okP l)(hs:s<0∨2<s)(hl:l.length≤900)(hx:okV x)(ht:Vers w w.heap.size v l):
  Calls Tryz.prog 120 #[v,.int .i64 s,ver x] w fun e w'=>∃ v',e=.returned (.tuple #[v',.int .i64 1])∧OwnV w.heap.size w' v' []∧Q w w':=by
 have hmf:=@HMF
 have qa:Q w (w.alloc (.cells #[.int .u64 (x.id:Nat),.string x.data,.bool x.mark,.int .i64 x.tm] 49)):=(Q.refl w).alloc _
 have LA:=BB (w.alloc (.cells #[.int .u64 (x.id:Nat),.string x.data,.bool x.mark,.int .i64 x.tm] 49))
 rw [World.size_alloc] at LA
 have LA:=AC LA
 have CK:Hid (∀ b,Q w b→Calls Tryz.prog 94 #[v] b fun e w'=>e=.returned (.int .i64 1)∧Q b w'):=AC (fun b q=>FH l v b hR (by omega) (ht.on q))
 obtain⟨z,Z⟩:∃ z,Hid (∀ w b,w.heap[b]?=some (.map lay3 3)→(Instr.lookup OA (.map (some b)) (.int .i64 s) true).run Tryz.prog w=.ok (.tuple #[z,.bool false]) w):=Ev s hs
 clear hR hs
 rw [ver]
 go_enter Tryz.func120,Tryz.ntmps120
 go_wp2_with fail
 refine(LA.out).mono ?_
 rintro e w1 ⟨rfl,hm1,q1⟩
 have qb:=qa.trans q1
 have LK:=Z.out w1 (w.heap.size+1) hm1
 go_wp2_with (refine AV _ rfl _ _ rfl _ _ _ rfl rfl LK ?_)
 refine(CK.out _ qb).mono ?_
 rintro e w2 ⟨rfl,q2⟩
 have qc:=qb.trans q2
 go_wp2
 go_ret2
 exact⟨_,rfl,OwnV.nil _ _,qc⟩
theorem MQ(l:List Ver)(v:Value)(s:Int)(x:Ver)(w:World)(hR:okP l)(hs:s<0∨2<s)(hl:l.length≤900)(hx:okV x)(ht:Vers w w.heap.size v l):
  Calls Tryz.prog 120 #[v,.int .i64 s,ver x] w fun e w'=>∃ v',e=.returned (.tuple #[v',.int .i64 1])∧OwnV w.heap.size w' v' []∧Q w w':=by
 have hmf:=@HMF
 have qa:Q w (w.alloc (.cells #[.int .u64 (x.id:Nat),.string x.data,.bool x.mark,.int .i64 x.tm] 49)):=(Q.refl w).alloc _
 have LA:=BB (w.alloc (.cells #[.int .u64 (x.id:Nat),.string x.data,.bool x.mark,.int .i64 x.tm] 49))
 rw [World.size_alloc] at LA
 have LA:=AC LA
 have CK:Hid (∀ b,Q w b→Calls Tryz.prog 94 #[v] b fun e w'=>e=.returned (.int .i64 0)∧Q b w'):=AC (fun b q=>Bh l v b hR (by omega) (ht.on q))
 obtain⟨z,Z⟩:∃ z,Hid (∀ w b,w.heap[b]?=some (.map lay3 3)→(Instr.lookup OA (.map (some b)) (.int .i64 s) true).run Tryz.prog w=.ok (.tuple #[z,.bool false]) w):=Ev s hs
 clear hR hs
 rw [ver]
 go_enter Tryz.func120,Tryz.ntmps120
 go_wp2_with fail
 refine(LA.out).mono ?_
 rintro e w1 ⟨rfl,hm1,q1⟩
 have qb:=qa.trans q1
 have LK:=Z.out w1 (w.heap.size+1) hm1
 go_wp2_with (refine AV _ rfl _ _ rfl _ _ _ rfl rfl LK ?_)
 refine(CK.out _ qb).mono ?_
 rintro e w2 ⟨rfl,q2⟩
 have qc:=qb.trans q2
 go_wp2
 go_ret2
 exact⟨_,rfl,OwnV.nil _ _,qc⟩
theorem Id(l:List Ver)(v:Value)(s:Int)(x:Ver)(w:World)(hR:okP l)(h0:0≤s)(h2:s≤2)(hML:∀ b,Q w b→Calls Tryz.prog 158 #[v,.int .i64 s,ver x] b fun e w'=>e=.returned (.bool false)∧Q b w')(hl:l.length≤900)(hx:okV x)(ht:Vers w w.heap.size v l):
  Calls Tryz.prog 120 #[v,.int .i64 s,ver x] w fun e w'=>∃ v',e=.returned (.tuple #[v',.int .i64 1])∧OwnV w.heap.size w' v' []∧Q w w':=by
 have hmf:=@HMF
 have qa:Q w (w.alloc (.cells #[.int .u64 (x.id:Nat),.string x.data,.bool x.mark,.int .i64 x.tm] 49)):=(Q.refl w).alloc _
 have LA:=BB (w.alloc (.cells #[.int .u64 (x.id:Nat),.string x.data,.bool x.mark,.int .i64 x.tm] 49))
 rw [World.size_alloc] at LA
 have LA:=AC LA
 have CK:Hid (∀ b,Q w b→Calls Tryz.prog 94 #[v] b fun e w'=>e=.returned (.int .i64 0)∧Q b w'):=AC (fun b q=>Bh l v b hR (by omega) (ht.on q))
 have ML:Hid (∀ b,Q w b→Calls Tryz.prog 158 #[v,.int .i64 s,.agg #[.int .u64 (x.id:Nat),.string x.data,.bool x.mark,.int .i64 x.tm]] b fun e w'=>e=.returned (.bool false)∧Q b w'):=AC (fun b q=>hML b q)
 clear hR hML
 rw [ver]
 go_enter Tryz.func120,Tryz.ntmps120
 go_wp2_with fail
 refine(LA.out).mono ?_
 rintro e w1 ⟨rfl,hm1,q1⟩
 have qb:=qa.trans q1
 have LK:=Bv w1 (w.heap.size+1) s _ rfl hm1 h0 h2
 go_wp2_with (refine AV _ rfl _ _ rfl _ _ _ rfl rfl LK ?_)
 refine(CK.out _ qb).mono ?_
 rintro e w2 ⟨rfl,q2⟩
 have qc:=qb.trans q2
 obtain⟨b0,b1,b2,b3⟩:=Aa (q1.trans q2)
 go_wp2_with fail
 refine(ML.out _ qc).mono ?_
 rintro e w3 ⟨rfl,q3⟩
 have qd:=qc.trans q3
 have qd1:=(q1.trans q2).trans q3
 clear b0 b1 b2 b3
 go_wp2
 go_ret2
 exact⟨_,rfl,OwnV.nil _ _,qd⟩
theorem MR(l:List Ver)(v:Value)(s:Int)(x:Ver)(w:World)(hR:okP l)(hs:s=1)(hML:∀ b,Q w b→Calls Tryz.prog 158 #[v,.int .i64 s,ver x] b fun e w'=>e=.returned (.bool true)∧Q b w')(hany:l.any (fun y=>decide (x.id≤y.id))=true)(hl:l.length≤900)(hx:okV x)(ht:Vers w w.heap.size v l):
  Calls Tryz.prog 120 #[v,.int .i64 s,ver x] w fun e w'=>∃ v',e=.returned (.tuple #[v',.int .i64 9])∧OwnV w.heap.size w' v' []∧Q w w':=by
 have hmf:=@HMF
 have qa:Q w (w.alloc (.cells #[.int .u64 (x.id:Nat),.string x.data,.bool x.mark,.int .i64 x.tm] 49)):=(Q.refl w).alloc _
 have LA:=BB (w.alloc (.cells #[.int .u64 (x.id:Nat),.string x.data,.bool x.mark,.int .i64 x.tm] 49))
 rw [World.size_alloc] at LA
 have LA:=AC LA
 have CK:Hid (∀ b,Q w b→Calls Tryz.prog 94 #[v] b fun e w'=>e=.returned (.int .i64 0)∧Q b w'):=AC (fun b q=>Bh l v b hR (by omega) (ht.on q))
 have ML:Hid (∀ b,Q w b→Calls Tryz.prog 158 #[v,.int .i64 s,.agg #[.int .u64 (x.id:Nat),.string x.data,.bool x.mark,.int .i64 x.tm]] b fun e w'=>e=.returned (.bool true)∧Q b w'):=AC (fun b q=>hML b q)
 have CF:Hid (∀ b,Q (w.alloc (.cells #[.int .u64 (x.id:Nat),.string x.data,.bool x.mark,.int .i64 x.tm] 49)) b→Calls Tryz.prog 96 #[v,.func (.func 159) #[] #[.pointer (some ⟨w.heap.size,0,none⟩)]] b fun e w'=>e=.returned (.bool true)∧Q b w'):=AC (fun b q=>by
  have:=Aq 159 w.heap.size (fun y=>decide (x.id≤y.id)) l v b NS (fun y d q2=>Cj y x w.heap.size d (Aa (q.trans q2)).1 (Nat.lt_of_lt_of_le (by simp) (Q.size (q.trans q2)))) (by omega) (ht.on (qa.trans q))
  rw [hany] at this
  exact this)
 subst hs
 have hg:Qj 1=178:=rfl
 clear hR hML hany
 rw [ver]
 go_enter Tryz.func120,Tryz.ntmps120
 go_wp2_with fail
 refine(LA.out).mono ?_
 rintro e w1 ⟨rfl,hm1,q1⟩
 have qb:=qa.trans q1
 have LK:=Bv w1 (w.heap.size+1) 1 178 hg hm1 (by omega) (by omega)
 go_wp2_with (refine AV _ rfl _ _ rfl _ _ _ rfl rfl LK ?_)
 refine(CK.out _ qb).mono ?_
 rintro e w2 ⟨rfl,q2⟩
 have qc:=qb.trans q2
 obtain⟨b0,b1,b2,b3⟩:=Aa (q1.trans q2)
 go_wp2_with fail
 refine(ML.out _ qc).mono ?_
 rintro e w3 ⟨rfl,q3⟩
 have qd:=qc.trans q3
 have qd1:=(q1.trans q2).trans q3
 clear b0 b1 b2 b3
 go_wp2_with fail
 refine(CF.out _ qd1).mono ?_
 rintro e w4 ⟨rfl,q4⟩
 have qe:=qd.trans q4
 have qe1:=qd1.trans q4
 go_wp2
 go_ret2
 exact⟨_,rfl,OwnV.nil _ _,qe⟩
theorem MS(l:List Ver)(v:Value)(s:Int)(x:Ver)(w:World)(hR:okP l)(hs:s=1)(hML:∀ b,Q w b→Calls Tryz.prog 158 #[v,.int .i64 s,ver x] b fun e w'=>e=.returned (.bool true)∧Q b w')(hany:l.any (fun y=>decide (x.id≤y.id))=false)(h20:20≤l.length)(hl:l.length≤900)(hx:okV x)(ht:Vers w w.heap.size v l):
  Calls Tryz.prog 120 #[v,.int .i64 s,ver x] w fun e w'=>∃ v',e=.returned (.tuple #[v',.int .i64 6])∧OwnV w.heap.size w' v' []∧Q w w':=by
 have hmf:=@HMF
 have qa:Q w (w.alloc (.cells #[.int .u64 (x.id:Nat),.string x.data,.bool x.mark,.int .i64 x.tm] 49)):=(Q.refl w).alloc _
 have LA:=BB (w.alloc (.cells #[.int .u64 (x.id:Nat),.string x.data,.bool x.mark,.int .i64 x.tm] 49))
 rw [World.size_alloc] at LA
 have LA:=AC LA
 have CK:Hid (∀ b,Q w b→Calls Tryz.prog 94 #[v] b fun e w'=>e=.returned (.int .i64 0)∧Q b w'):=AC (fun b q=>Bh l v b hR (by omega) (ht.on q))
 have ML:Hid (∀ b,Q w b→Calls Tryz.prog 158 #[v,.int .i64 s,.agg #[.int .u64 (x.id:Nat),.string x.data,.bool x.mark,.int .i64 x.tm]] b fun e w'=>e=.returned (.bool true)∧Q b w'):=AC (fun b q=>hML b q)
 have CF:Hid (∀ b,Q (w.alloc (.cells #[.int .u64 (x.id:Nat),.string x.data,.bool x.mark,.int .i64 x.tm] 49)) b→Calls Tryz.prog 96 #[v,.func (.func 159) #[] #[.pointer (some ⟨w.heap.size,0,none⟩)]] b fun e w'=>e=.returned (.bool false)∧Q b w'):=AC (fun b q=>by
  have:=Aq 159 w.heap.size (fun y=>decide (x.id≤y.id)) l v b NS (fun y d q2=>Cj y x w.heap.size d (Aa (q.trans q2)).1 (Nat.lt_of_lt_of_le (by simp) (Q.size (q.trans q2)))) (by omega) (ht.on (qa.trans q))
  rw [hany] at this
  exact this)
 have CA:Hid (∀ b,Q w b→Calls Tryz.prog 178 #[v,.agg #[.int .u64 (x.id:Nat),.string x.data,.bool x.mark,.int .i64 x.tm]] b fun e w'=>∃ v',e=.returned v'∧OwnV b.heap.size w' v' (x :: l)∧Q b w'):=AC (fun b q=>FM l v x b hx (by omega) (ht.on q))
 subst hs
 have hg:Qj 1=178:=rfl
 have h20':(20:Int)<(((x :: l).length:Nat):Int):=by rw [List.length_cons];omega
 clear hR hML hany h20
 generalize hk:(x :: l).length=K at h20'
 rw [ver]
 go_enter Tryz.func120,Tryz.ntmps120
 go_wp2_with fail
 refine(LA.out).mono ?_
 rintro e w1 ⟨rfl,hm1,q1⟩
 have qb:=qa.trans q1
 have LK:=Bv w1 (w.heap.size+1) 1 178 hg hm1 (by omega) (by omega)
 go_wp2_with (refine AV _ rfl _ _ rfl _ _ _ rfl rfl LK ?_)
 refine(CK.out _ qb).mono ?_
 rintro e w2 ⟨rfl,q2⟩
 have qc:=qb.trans q2
 obtain⟨b0,b1,b2,b3⟩:=Aa (q1.trans q2)
 go_wp2_with fail
 refine(ML.out _ qc).mono ?_
 rintro e w3 ⟨rfl,q3⟩
 have qd:=qc.trans q3
 have qd1:=(q1.trans q2).trans q3
 clear b0 b1 b2 b3
 go_wp2_with fail
 refine(CF.out _ qd1).mono ?_
 rintro e w4 ⟨rfl,q4⟩
 have qe:=qd.trans q4
 have qe1:=qd1.trans q4
 obtain⟨d0,d1,d2,d3⟩:=Aa qe1
 go_wp2_with fail
 refine(CA.out _ qe).mono ?_
 rintro e w5 ⟨v5,rfl,o5,q5⟩
 have qf:=qe.trans q5
 have O5:=AC o5
 obtain⟨A5,c5,rfl⟩:=Ae o5
 clear o5
 rw [hk]
 go_wp2
 go_ret2
 exact⟨_,rfl,OwnV.nil _ _,qf⟩
theorem S6(l:List Ver)(v:Value)(s:Int)(x:Ver)(w:World)(hR:okP l)(hs:s=1)(hML:∀ b,Q w b→Calls Tryz.prog 158 #[v,.int .i64 s,ver x] b fun e w'=>e=.returned (.bool true)∧Q b w')(hany:l.any (fun y=>decide (x.id≤y.id))=false)(h20:l.length<20)(hl:l.length≤900)(hx:okV x)(ht:Vers w w.heap.size v l):
  Calls Tryz.prog 120 #[v,.int .i64 s,ver x] w fun e w'=>∃ v',e=.returned (.tuple #[v',.int .i64 0])∧OwnV w.heap.size w' v' (x :: l)∧Q w w':=by
 have hmf:=@HMF
 have qa:Q w (w.alloc (.cells #[.int .u64 (x.id:Nat),.string x.data,.bool x.mark,.int .i64 x.tm] 49)):=(Q.refl w).alloc _
 have LA:=BB (w.alloc (.cells #[.int .u64 (x.id:Nat),.string x.data,.bool x.mark,.int .i64 x.tm] 49))
 rw [World.size_alloc] at LA
 have LA:=AC LA
 have CK:Hid (∀ b,Q w b→Calls Tryz.prog 94 #[v] b fun e w'=>e=.returned (.int .i64 0)∧Q b w'):=AC (fun b q=>Bh l v b hR (by omega) (ht.on q))
 have ML:Hid (∀ b,Q w b→Calls Tryz.prog 158 #[v,.int .i64 s,.agg #[.int .u64 (x.id:Nat),.string x.data,.bool x.mark,.int .i64 x.tm]] b fun e w'=>e=.returned (.bool true)∧Q b w'):=AC (fun b q=>hML b q)
 have CF:Hid (∀ b,Q (w.alloc (.cells #[.int .u64 (x.id:Nat),.string x.data,.bool x.mark,.int .i64 x.tm] 49)) b→Calls Tryz.prog 96 #[v,.func (.func 159) #[] #[.pointer (some ⟨w.heap.size,0,none⟩)]] b fun e w'=>e=.returned (.bool false)∧Q b w'):=AC (fun b q=>by
  have:=Aq 159 w.heap.size (fun y=>decide (x.id≤y.id)) l v b NS (fun y d q2=>Cj y x w.heap.size d (Aa (q.trans q2)).1 (Nat.lt_of_lt_of_le (by simp) (Q.size (q.trans q2)))) (by omega) (ht.on (qa.trans q))
  rw [hany] at this
  exact this)
 have CA:Hid (∀ b,Q w b→Calls Tryz.prog 178 #[v,.agg #[.int .u64 (x.id:Nat),.string x.data,.bool x.mark,.int .i64 x.tm]] b fun e w'=>∃ v',e=.returned v'∧OwnV b.heap.size w' v' (x :: l)∧Q b w'):=AC (fun b q=>FM l v x b hx (by omega) (ht.on q))
 subst hs
 have hg:Qj 1=178:=rfl
 have h20':¬ (20:Int)<(((x :: l).length:Nat):Int):=by rw [List.length_cons];omega
 clear hR hML hany h20
 obtain⟨K,hk⟩:∃ K,(x :: l).length=K:=⟨_,rfl⟩
 rw [hk] at h20'
 rw [ver]
 go_enter Tryz.func120,Tryz.ntmps120
 go_wp2_with fail
 refine(LA.out).mono ?_
 rintro e w1 ⟨rfl,hm1,q1⟩
 have qb:=qa.trans q1
 have LK:=Bv w1 (w.heap.size+1) 1 178 hg hm1 (by omega) (by omega)
 go_wp2_with (refine AV _ rfl _ _ rfl _ _ _ rfl rfl LK ?_)
 refine(CK.out _ qb).mono ?_
 rintro e w2 ⟨rfl,q2⟩
 have qc:=qb.trans q2
 obtain⟨b0,b1,b2,b3⟩:=Aa (q1.trans q2)
 go_wp2_with fail
 refine(ML.out _ qc).mono ?_
 rintro e w3 ⟨rfl,q3⟩
 have qd:=qc.trans q3
 have qd1:=(q1.trans q2).trans q3
 clear b0 b1 b2 b3
 go_wp2_with fail
 refine(CF.out _ qd1).mono ?_
 rintro e w4 ⟨rfl,q4⟩
 have qe:=qd.trans q4
 have qe1:=qd1.trans q4
 obtain⟨d0,d1,d2,d3⟩:=Aa qe1
 go_wp2_with fail
 refine(CA.out _ qe).mono ?_
 rintro e w5 ⟨v5,rfl,o5,q5⟩
 have qf:=qe.trans q5
 have O5:=AC o5
 obtain⟨A5,c5,rfl⟩:=Ae o5
 clear o5
 rw [hk] at O5 ⊢
 go_wp2
 go_ret2
 exact⟨_,rfl,OwnV.lower O5.out qe.size,qf⟩
theorem KZ(l:List Ver)(v:Value)(s:Int)(x:Ver)(w:World)(hR:okP l)(hs:s=0∨s=2)(hML:∀ b,Q w b→Calls Tryz.prog 158 #[v,.int .i64 s,ver x] b fun e w'=>e=.returned (.bool true)∧Q b w')(h20:20≤(woV l 0).length)(hl:l.length≤900)(hx:okV x)(ht:Vers w w.heap.size v l):
  Calls Tryz.prog 120 #[v,.int .i64 s,ver x] w fun e w'=>∃ v',e=.returned (.tuple #[v',.int .i64 6])∧OwnV w.heap.size w' v' []∧Q w w':=by
 have hmf:=@HMF
 have qa:Q w (w.alloc (.cells #[.int .u64 (x.id:Nat),.string x.data,.bool x.mark,.int .i64 x.tm] 49)):=(Q.refl w).alloc _
 have LA:=BB (w.alloc (.cells #[.int .u64 (x.id:Nat),.string x.data,.bool x.mark,.int .i64 x.tm] 49))
 rw [World.size_alloc] at LA
 have LA:=AC LA
 have CK:Hid (∀ b,Q w b→Calls Tryz.prog 94 #[v] b fun e w'=>e=.returned (.int .i64 0)∧Q b w'):=AC (fun b q=>Bh l v b hR (by omega) (ht.on q))
 have ML:Hid (∀ b,Q w b→Calls Tryz.prog 158 #[v,.int .i64 s,.agg #[.int .u64 (x.id:Nat),.string x.data,.bool x.mark,.int .i64 x.tm]] b fun e w'=>e=.returned (.bool true)∧Q b w'):=AC (fun b q=>hML b q)
 have CA:Hid (∀ b,Q w b→Calls Tryz.prog 177 #[v,.agg #[.int .u64 (x.id:Nat),.string x.data,.bool x.mark,.int .i64 x.tm]] b fun e w'=>∃ v',e=.returned v'∧OwnV b.heap.size w' v' (BI x :: woV l 0)∧Q b w'):=AC (fun b q=>JK l v x b hR hx (by omega) (ht.on q))
 have hg:Qj s=177:=by rcases hs with rfl | rfl <;> rfl
 have hs1:(s==1)=false:=by rcases hs with rfl | rfl <;> rfl
 have h20':(20:Int)<(((BI x :: woV l 0).length:Nat):Int):=by rw [List.length_cons];omega
 clear hR hML h20
 generalize hk:(BI x :: woV l 0).length=K at h20'
 rw [ver]
 go_enter Tryz.func120,Tryz.ntmps120
 go_wp2_with fail
 refine(LA.out).mono ?_
 rintro e w1 ⟨rfl,hm1,q1⟩
 have qb:=qa.trans q1
 have LK:=Bv w1 (w.heap.size+1) s 177 hg hm1 (by omega) (by omega)
 go_wp2_with (refine AV _ rfl _ _ rfl _ _ _ rfl rfl LK ?_)
 refine(CK.out _ qb).mono ?_
 rintro e w2 ⟨rfl,q2⟩
 have qc:=qb.trans q2
 obtain⟨b0,b1,b2,b3⟩:=Aa (q1.trans q2)
 go_wp2_with fail
 refine(ML.out _ qc).mono ?_
 rintro e w3 ⟨rfl,q3⟩
 have qd:=qc.trans q3
 have qd1:=(q1.trans q2).trans q3
 clear b0 b1 b2 b3
 have qe:=qd
 have qe1:=qd1
 obtain⟨d0,d1,d2,d3⟩:=Aa qe1
 go_wp2_with fail
 refine(CA.out _ qe).mono ?_
 rintro e w5 ⟨v5,rfl,o5,q5⟩
 have qf:=qe.trans q5
 have O5:=AC o5
 obtain⟨A5,c5,rfl⟩:=Ae o5
 clear o5
 rw [hk]
 go_wp2
 go_ret2
 exact⟨_,rfl,OwnV.nil _ _,qf⟩
theorem O0(l:List Ver)(v:Value)(s:Int)(x:Ver)(w:World)(hR:okP l)(hs:s=0∨s=2)(hML:∀ b,Q w b→Calls Tryz.prog 158 #[v,.int .i64 s,ver x] b fun e w'=>e=.returned (.bool true)∧Q b w')(h20:(woV l 0).length<20)(hl:l.length≤900)(hx:okV x)(ht:Vers w w.heap.size v l):
  Calls Tryz.prog 120 #[v,.int .i64 s,ver x] w fun e w'=>∃ v',e=.returned (.tuple #[v',.int .i64 0])∧OwnV w.heap.size w' v' (BI x :: woV l 0)∧Q w w':=by
 have hmf:=@HMF
 have qa:Q w (w.alloc (.cells #[.int .u64 (x.id:Nat),.string x.data,.bool x.mark,.int .i64 x.tm] 49)):=(Q.refl w).alloc _
 have LA:=BB (w.alloc (.cells #[.int .u64 (x.id:Nat),.string x.data,.bool x.mark,.int .i64 x.tm] 49))
 rw [World.size_alloc] at LA
 have LA:=AC LA
 have CK:Hid (∀ b,Q w b→Calls Tryz.prog 94 #[v] b fun e w'=>e=.returned (.int .i64 0)∧Q b w'):=AC (fun b q=>Bh l v b hR (by omega) (ht.on q))
 have ML:Hid (∀ b,Q w b→Calls Tryz.prog 158 #[v,.int .i64 s,.agg #[.int .u64 (x.id:Nat),.string x.data,.bool x.mark,.int .i64 x.tm]] b fun e w'=>e=.returned (.bool true)∧Q b w'):=AC (fun b q=>hML b q)
 have CA:Hid (∀ b,Q w b→Calls Tryz.prog 177 #[v,.agg #[.int .u64 (x.id:Nat),.string x.data,.bool x.mark,.int .i64 x.tm]] b fun e w'=>∃ v',e=.returned v'∧OwnV b.heap.size w' v' (BI x :: woV l 0)∧Q b w'):=AC (fun b q=>JK l v x b hR hx (by omega) (ht.on q))
 have hg:Qj s=177:=by rcases hs with rfl | rfl <;> rfl
 have hs1:(s==1)=false:=by rcases hs with rfl | rfl <;> rfl
 have h20':¬ (20:Int)<(((BI x :: woV l 0).length:Nat):Int):=by rw [List.length_cons];omega
 clear hR hML h20
 obtain⟨K,hk⟩:∃ K,(BI x :: woV l 0).length=K:=⟨_,rfl⟩
 rw [hk] at h20'
 rw [ver]
 go_enter Tryz.func120,Tryz.ntmps120
 go_wp2_with fail
 refine(LA.out).mono ?_
 rintro e w1 ⟨rfl,hm1,q1⟩
 have qb:=qa.trans q1
 have LK:=Bv w1 (w.heap.size+1) s 177 hg hm1 (by omega) (by omega)
 go_wp2_with (refine AV _ rfl _ _ rfl _ _ _ rfl rfl LK ?_)
 refine(CK.out _ qb).mono ?_
 rintro e w2 ⟨rfl,q2⟩
 have qc:=qb.trans q2
 obtain⟨b0,b1,b2,b3⟩:=Aa (q1.trans q2)
 go_wp2_with fail
 refine(ML.out _ qc).mono ?_
 rintro e w3 ⟨rfl,q3⟩
 have qd:=qc.trans q3
 have qd1:=(q1.trans q2).trans q3
 clear b0 b1 b2 b3
 have qe:=qd
 have qe1:=qd1
 obtain⟨d0,d1,d2,d3⟩:=Aa qe1
 go_wp2_with fail
 refine(CA.out _ qe).mono ?_
 rintro e w5 ⟨v5,rfl,o5,q5⟩
 have qf:=qe.trans q5
 have O5:=AC o5
 obtain⟨A5,c5,rfl⟩:=Ae o5
 clear o5
 rw [hk] at O5 ⊢
 go_wp2
 go_ret2
 exact⟨_,rfl,OwnV.lower O5.out qe.size,qf⟩
end
section
open Go.ChangeShapes Go.WideShapes Go.ChangeAt Go.RowKit
theorem Bu(l:List Ver)(v:Value)(s:Int)(x:Ver)(w:World)(hm:B9 x=true)(hz:¬ (s=1∧x.id=0))(hl:∀ y m,l=y :: m→y.tm≤x.tm)(ht:Vers w w.heap.size v l):
  Calls Tryz.prog 158 #[v,.int .i64 s,ver x] w fun e w'=>e=.returned (.bool true)∧Q w w':=by
 cases l with
 | nil=>exact Kh [] v s x w hm hz rfl ht
 | cons y m=>exact Kg (y :: m) v s x w hm hz (by simp) (hl y m rfl) ht
theorem Ie(l:List Ver)(v:Value)(s:Int)(x:Ver)(w:World)(L:List Ver)(c:Nat)(h:PutC l s x L c)(hl:l.length≤900)(hx:okV x)(ht:Vers w w.heap.size v l):
  Calls Tryz.prog 120 #[v,.int .i64 s,ver x] w fun e w'=>∃ v',e=.returned (.tuple #[v',.int .i64 (c:Nat)])∧OwnV w.heap.size w' v' L∧Q w w':=by
 cases h with
 | chk h1=>
   by_cases hs:s<0∨2<s
   ·exact O2 l v s x w h1 hs hl hx ht
   ·exact RK l v s x w h1 (by omega) (by omega) hl hx ht
 | state h1 h2=>exact MQ l v s x w h1 h2 hl hx ht
 | may h1 h2 h3 h4=>exact Id l v s x w h1 h2 h3 (fun b q=>Ki v s x b h4) hl hx ht
 | zero h1 h2 h3 h4=>
   subst h2
   exact Id l v 1 x w h1 (by omega) (by omega) (fun b q=>Io v x b h3 h4) hl hx ht
 | late h1 h2 h3 h4 h5 h6=>
   obtain⟨y,m,rfl,hy⟩:=h6
   exact Id (y :: m) v s x w h1 h2 h3 (fun b q=>Mk (y :: m) v s x b h4 h5 (by simp) hy (ht.on q)) hl hx ht
 | order h1 h2 h3 h4 h5 h6=>exact MR l v s x w h1 h2 (fun b q=>Bu l v s x b h3 (fun e=>h4 e.2) h5 (ht.on q)) h6 hl hx ht
 | large h1 h2 h3 h4 h5 h6 h7=>exact MS l v s x w h1 h2 (fun b q=>Bu l v s x b h3 (fun e=>h4 e.2) h5 (ht.on q)) h6 h7 hl hx ht
 | on h1 h2 h3 h4 h5 h6 h7=>exact S6 l v s x w h1 h2 (fun b q=>Bu l v s x b h3 (fun e=>h4 e.2) h5 (ht.on q)) h6 h7 hl hx ht
 | large0 h1 h2 h3 h4 h5=>exact KZ l v s x w h1 h2 (fun b q=>Bu l v s x b h3 (by omega) h4 (ht.on q)) h5 hl hx ht
 | over h1 h2 h3 h4 h5=>exact O0 l v s x w h1 h2 (fun b q=>Bu l v s x b h3 (by omega) h4 (ht.on q)) h5 hl hx ht
inductive DropC(l:List Ver)(id:Nat):List Ver→Nat→Prop
 | chk:¬ okP l→DropC l id [] 1
 | none:okP l→(∀ j (hl:j<l.length),l[j].id≠id)→DropC l id [] 4
 | yes:okP l→(∃ i,∃ h:i<l.length,l[i].id=id)→DropC l id (woV l id) 0
theorem Jq(l:List Ver)(id:Nat):∃ L c,DropC l id L c:=by
 by_cases h1:okP l
 ·by_cases h2:∃ i,∃ h:i<l.length,l[i].id=id
  ·exact⟨_,_,.yes h1 h2⟩
  ·exact⟨_,_,.none h1 (fun j hl e=>h2 ⟨j,hl,e⟩)⟩
 ·exact⟨_,_,.chk h1⟩
theorem Jp(l:List Ver)(v:Value)(id:Nat)(w:World)(L:List Ver)(c:Nat)(h:DropC l id L c)(hl:l.length≤900)(ht:Vers w w.heap.size v l):
  Calls Tryz.prog 124 #[v,.int .u64 (id:Nat)] w fun e w'=>∃ v',e=.returned (.tuple #[v',.int .i64 (c:Nat)])∧OwnV w.heap.size w' v' L∧Q w w':=by
 have P:Hid (∀ b,Q w b→Calls Tryz.prog 108 #[v,.int .u64 (id:Nat)] b fun e w'=>e=.returned (.int .i64 (Gt (fun x=>decide (x.id=id)) l))∧Q b w'):=AC (fun b q=>Hg l v id b (by omega) (ht.on q))
 have BAD:¬ okP l→L=[]→c=1→Calls Tryz.prog 124 #[v,.int .u64 (id:Nat)] w fun e w'=>∃ v',e=.returned (.tuple #[v',.int .i64 (c:Nat)])∧OwnV w.heap.size w' v' L∧Q w w':=by
  intro hR e1 e2
  subst e1 e2
  have CK:=AC (FH l v w hR (by omega) ht)
  clear hR ht P h
  go_enter Tryz.func124,Tryz.ntmps124
  go_wp2_with fail
  refine(CK.out).mono ?_
  rintro e w1 ⟨rfl,q1⟩
  go_wp2
  go_ret2
  exact⟨_,rfl,OwnV.nil _ _,q1⟩
 have NONE:okP l→(∀ j (hl:j<l.length),l[j].id≠id)→L=[]→c=4→Calls Tryz.prog 124 #[v,.int .u64 (id:Nat)] w fun e w'=>∃ v',e=.returned (.tuple #[v',.int .i64 (c:Nat)])∧OwnV w.heap.size w' v' L∧Q w w':=by
  intro hR hn e1 e2
  subst e1 e2
  have CK:=AC (Bh l v w hR (by omega) ht)
  have hp:Gt (fun x=>decide (x.id=id)) l = -1:=Hq (fun j hl=>by simpa using hn j hl)
  rw [hp] at P
  clear hR ht h hn BAD hp
  go_enter Tryz.func124,Tryz.ntmps124
  go_wp2_with fail
  refine(CK.out).mono ?_
  rintro e w1 ⟨rfl,q1⟩
  go_wp2_with fail
  refine(P.out _ q1).mono ?_
  rintro e w2 ⟨rfl,q2⟩
  go_wp2
  go_ret2
  exact⟨_,rfl,OwnV.nil _ _,q1.trans q2⟩
 cases h with
 | chk h1=>exact BAD h1 rfl rfl
 | none h1 h2=>exact NONE h1 h2 rfl rfl
 | yes hR h2=>
   rcases Em l id with⟨i,hi,hp,h0⟩ | ⟨hp,hn⟩
   ·have CK:=AC (Bh l v w hR (by omega) ht)
    have W:Hid (∀ b,Q w b→Calls Tryz.prog 160 #[v,.int .i64 (i:Nat)] b fun e w'=>∃ v',e=.returned v'∧OwnV b.heap.size w' v' (woV l id)∧Q b w'):=AC (fun b q=>by
     have:=EZ l v i b hi (by omega) (ht.on q)
     rw [← Lm hR hi,h0] at this
     exact this)
    rw [hp] at P
    clear hR ht h2 BAD NONE hp h0 hi
    go_enter Tryz.func124,Tryz.ntmps124
    go_wp2_with fail
    refine(CK.out).mono ?_
    rintro e w1 ⟨rfl,q1⟩
    go_wp2_with fail
    refine(P.out _ q1).mono ?_
    rintro e w2 ⟨rfl,q2⟩
    have q3:=q1.trans q2
    go_wp2_with fail
    refine(W.out _ q3).mono ?_
    rintro e w3 ⟨v3,rfl,o3,q4⟩
    go_wp2
    go_ret2
    exact⟨_,rfl,OwnV.lower o3 q3.size,q3.trans q4⟩
   ·obtain⟨i,hi,e⟩:=h2
    exact absurd e (hn i hi)
def Fa(id:Nat)(tm:Int):Ver:=⟨id,⟨#[]⟩,true,tm⟩
def J1(l:List Ver)(s:Int)(id:Nat)(tm:Int)(L:List Ver)(c:Nat):Prop:=
 (s=0∧DropC l 0 L c)∨(s≠0∧PutC l s (Fa (if s=2 then 0 else id) tm) L c)
theorem SP(l:List Ver)(s:Int)(id:Nat)(tm:Int):∃ L c,J1 l s id tm L c:=by
 by_cases h:s=0
 ·obtain⟨L,c,k⟩:=Jq l 0
  exact⟨L,c,.inl ⟨h,k⟩⟩
 ·obtain⟨L,c,k⟩:=GM l s (Fa (if s=2 then 0 else id) tm)
  exact⟨L,c,.inr ⟨h,k⟩⟩
theorem DS{id:Nat}{tm:Int}(h:id<18446744073709551616)(h1 : -9223372036854775808≤tm)(h2:tm≤9223372036854775807):okV (Fa id tm):=⟨h,by show 0≤maxLen;omega,h1,h2⟩
theorem LB(l:List Ver)(v:Value)(s:Int)(id:Nat)(tm:Int)(w:World)(L:List Ver)(c:Nat)(h:J1 l s id tm L c)(hl:l.length≤900)(hid:id<18446744073709551616)(ht1 : -9223372036854775808≤tm)(ht2:tm≤9223372036854775807)(ht:Vers w w.heap.size v l):
  Calls Tryz.prog 122 #[v,.int .i64 s,.int .u64 (id:Nat),.int .i64 tm] w fun e w'=>∃ v',e=.returned (.tuple #[v',.int .i64 (c:Nat)])∧OwnV w.heap.size w' v' L∧Q w w':=by
 rcases h with⟨rfl,h⟩ | ⟨h0,h⟩
 ·have C:=AC (Jp l v 0 w L c h hl ht)
  clear h ht
  go_enter Tryz.func122,Tryz.ntmps122
  go_wp2_with fail
  refine(C.out).mono ?_
  rintro e w1 ⟨v1,rfl,o1,q1⟩
  go_wp2
  go_ret2
  exact⟨_,rfl,o1,q1⟩
 ·have h00:(s==0)=false:=by simpa using h0
  by_cases h2:s=2
  ·rw [if_pos h2] at h
   subst h2
   have C:=AC (Ie l v 2 _ w L c h hl (DS (by omega) ht1 ht2) ht)
   rw [ver] at C
   simp only [Fa] at C
   clear h ht h0
   go_enter Tryz.func122,Tryz.ntmps122
   go_wp2_with fail
   refine(C.out).mono ?_
   rintro e w1 ⟨v1,rfl,o1,q1⟩
   go_wp2
   go_ret2
   exact⟨_,rfl,o1,q1⟩
  ·rw [if_neg h2] at h
   have h22:(s==2)=false:=by simpa using h2
   have C:=AC (Ie l v s _ w L c h hl (DS hid ht1 ht2) ht)
   rw [ver] at C
   simp only [Fa] at C
   clear h ht h0 h2
   go_enter Tryz.func122,Tryz.ntmps122
   go_wp2_with fail
   refine(C.out).mono ?_
   rintro e w1 ⟨v1,rfl,o1,q1⟩
   go_wp2
   go_ret2
   exact⟨_,rfl,o1,q1⟩
end
section
open Go.ChangeShapes Go.WideShapes Go.ChangeAt Go.RowKit
def ahd(x y:Ver):Prop:=y.tm≤x.tm∧BH x y=false
theorem Ci{l:List Ver}: okP l↔l.length≤20∧(∀ x∈l,B9 x=true)∧l.Pairwise ahd:=by
 constructor
 ·intro h
  refine⟨h.1,fun x hx=>?_,?_⟩
  ·obtain⟨k,hk,rfl⟩:=List.getElem_of_mem hx
   exact(h.2 k).1 hk
  ·rw [List.pairwise_iff_getElem]
   intro i j hi hj hij
   refine⟨?_,(h.2 j).2.2 i hj hij hi⟩
   obtain⟨d,rfl⟩:∃ d,j=i+d+1:=⟨j - i - 1,by omega⟩
   induction d with
   | zero=>have:=(h.2 (i+1)).2.1 i rfl hj;simpa using this
   | succ d ih=>
     have h1:=ih (by omega) (by omega)
     have h2:=(h.2 (i+(d+1)+1)).2.1 (i+d+1) (by omega) hj
     omega
 ·rintro⟨h1,h2,h3⟩
  rw [List.pairwise_iff_getElem] at h3
  refine⟨h1,fun i=>⟨fun h=>h2 _ (List.getElem_mem h),fun j hj h=>?_,fun k hi hk hk'=>(h3 k i hk' hi hk).2⟩⟩
  have:=(h3 j i (by omega) h (by omega)).1
  omega
theorem Ij:okP []:=Ci.2 ⟨by simp,by simp,List.Pairwise.nil⟩
theorem Rb{l m:List Ver}(h:okP l)(k:m.Sublist l):okP m:=by
 obtain⟨h1,h2,h3⟩:=Ci.1 h
 exact Ci.2 ⟨Nat.le_trans k.length_le h1,fun x hx=>h2 x (k.subset hx),h3.sublist k⟩
theorem Me{l:List Ver}(h:okP l)(id:Nat):okP (woV l id):=Rb h List.filter_sublist
theorem JN{l:List Ver}{x:Ver}(h:okP l)(hl:l.length<20)(hm:B9 x=true)(ha:∀ y∈l,ahd x y):okP (x :: l):=by
 obtain⟨h1,h2,h3⟩:=Ci.1 h
 refine Ci.2 ⟨by rw [List.length_cons];omega,fun y hy=>?_,List.Pairwise.cons ha h3⟩
 rcases List.mem_cons.1 hy with rfl | hy
 ·exact hm
 ·exact h2 y hy
theorem Qi{l:List Ver}{x:Ver}(h:okP l)(hl:∀ y m,l=y :: m→y.tm≤x.tm):∀ y∈l,y.tm≤x.tm:=by
 intro y hy
 obtain⟨-,-,h3⟩:=Ci.1 h
 cases l with
 | nil=>simp at hy
 | cons z m=>
   have hz:=hl z m rfl
   rcases List.mem_cons.1 hy with rfl | hy
   ·exact hz
   ·have:=(List.pairwise_cons.1 h3).1 y hy
    have:=this.1
    omega
theorem J2{x:Ver}(h:B9 x=true):B9 (BI x)=true:=by
 rw [GR] at h ⊢
 exact⟨by show 0≤281474976710655;omega,h.2⟩
theorem Gy{l:List Ver}{id:Nat}{y:Ver}: y∈woV l id↔y∈l∧y.id≠id:=by
 rw [woV,List.mem_filter];simp
theorem Cg{l L:List Ver}{s:Int}{x:Ver}(h:PutC l s x L 0):okP L:=by
 cases h with
 | on h1 h2 h3 h4 h5 h6 h7=>
   refine JN h1 h7 h3 fun y hy=>⟨Qi h1 h5 y hy,?_⟩
   rw [List.any_eq_false] at h6
   have h8:=h6 y hy
   have h9:¬ x.id≤y.id:=by simpa using h8
   unfold BH
   by_cases h0:y.id=0
   ·rw [if_pos h0];simpa using h4
   ·rw [if_neg h0,if_neg h4];simpa using h9
 | over h1 h2 h3 h4 h5=>
   refine JN (Me h1 0) h5 (J2 h3) fun y hy=>?_
   obtain⟨hy1,hy2⟩:=Gy.1 hy
   refine⟨Qi h1 h4 y hy1,?_⟩
   unfold BH
   rw [if_neg hy2,if_pos (show(BI x).id=0 from rfl)]
theorem Gc{l L:List Ver}{id:Nat}(h:DropC l id L 0):okP L:=by
 cases h with
 | yes h1 h2=>exact Me h1 id
theorem I2{l L:List Ver}{s:Int}{id:Nat}{tm:Int}(h:J1 l s id tm L 0):okP L:=by
 rcases h with⟨-,h⟩ | ⟨-,h⟩
 ·exact Gc h
 ·exact Cg h
theorem EH{l L:List Ver}{s:Int}{x:Ver}{c:Nat}(h:PutC l s x L c)(hl:∀ y∈l,okV y)(hx:okV x):∀ y∈L,okV y:=by
 intro y hy
 cases h with
 | on h1 h2 h3 h4 h5 h6 h7=>
   rcases List.mem_cons.1 hy with rfl | hy
   ·exact hx
   ·exact hl y hy
 | over h1 h2 h3 h4 h5=>
   rcases List.mem_cons.1 hy with rfl | hy
   ·exact Gx hx
   ·exact hl y (Gy.1 hy).1
 | _=>simp at hy
theorem FC{l L:List Ver}{id:Nat}{c:Nat}(h:DropC l id L c)(hl:∀ y∈l,okV y):∀ y∈L,okV y:=by
 intro y hy
 cases h with
 | yes h1 h2=>exact hl y (Gy.1 hy).1
 | _=>simp at hy
theorem Gf{l L:List Ver}{s:Int}{id:Nat}{tm:Int}{c:Nat}(h:J1 l s id tm L c)(hl:∀ y∈l,okV y)(hid:id<18446744073709551616)(h1 : -9223372036854775808≤tm)(h2:tm≤9223372036854775807):∀ y∈L,okV y:=by
 rcases h with⟨-,h⟩ | ⟨-,h⟩
 ·exact FC h hl
 ·exact EH h hl (DS (by split <;> omega) h1 h2)
theorem EI{l L:List Ver}{s:Int}{x:Ver}{c:Nat}(h:PutC l s x L c):L.length≤20:=by
 cases h with
 | on h1 h2 h3 h4 h5 h6 h7=>rw [List.length_cons];omega
 | over h1 h2 h3 h4 h5=>rw [List.length_cons];omega
 | _=>simp
theorem FG{l L:List Ver}{id c:Nat}(h:DropC l id L c):L.length≤20:=by
 cases h with
 | yes h1 h2=>exact(Me h1 id).1
 | _=>simp
theorem Gg{l L:List Ver}{s:Int}{id:Nat}{tm:Int}{c:Nat}(h:J1 l s id tm L c):L.length≤20:=by
 rcases h with⟨-,h⟩ | ⟨-,h⟩
 ·exact FG h
 ·exact EI h
def x1:Ver:=⟨1,⟨#[97]⟩,false,0⟩
def x2:Ver:=⟨2,⟨#[98]⟩,false,0⟩
def y1:Ver:=⟨0,⟨#[97]⟩,false,0⟩
def y2:Ver:=⟨0,⟨#[98]⟩,false,0⟩
def m3:Ver:=Fa 3 0
end
end Go.Proofs.YtjjlbbfhmpbneaaGreat
