/-
  Small words of stage 1 over Core: the statements' Few of a text, and orders of texts. Contracts of name's Bucket, Key, Prefix, Delim and of what they call. Contracts of the document's own answers: keys, Bucket, Key, Prefix, Delim, Under.
-/
import Derived.Test.YtjjlbbfhmpbneaaGreatLa
namespace Go.Proofs.YtjjlbbfhmpbneaaGreat
open Lib renaming hid → AC
set_option maxHeartbeats 16000000
set_option maxRecDepth 100000
set_option linter.unusedVariables false
set_option linter.unusedSimpArgs false
section
open Go.ChangeShapes Go.WideShapes Go.ChangeAt Go.RowKit
@[go_sem] theorem Li(t:TypeId)(a b:ByteArray):binOp .geq t (.string a) (.string b)=pure (.bool !(Op.bytesLess a.toList b.toList)):=by simp [binOp,Op.stringOp]
@[go_sem] theorem Lh(t:TypeId)(a b:ByteArray):binOp .gtr t (.string a) (.string b)=pure (.bool !(Op.bytesLess a.toList b.toList||a.toList==b.toList)):=by simp [binOp,Op.stringOp]
@[go_sem] theorem Lg(t:TypeId)(a b:ByteArray):binOp .leq t (.string a) (.string b)=pure (.bool (Op.bytesLess a.toList b.toList||a.toList==b.toList)):=by simp [binOp,Op.stringOp]
def Cc(s:ByteArray):ByteArray:=if 80<s.size then s.extract 0 80 else s
theorem Bl(s:ByteArray):(Cc s).size≤80:=by
 unfold Cc;split
 ·simp;omega
 ·omega
theorem EV(s:ByteArray)(w:World)(hs:s.size≤maxLen):
  Calls Tryz.prog 22 #[.string s] w fun e w'=>e=.returned (.string (Cc s))∧w=w':=by
 unfold maxLen at hs
 have hf:Cc s=if 80<s.size then s.extract 0 80 else s:=rfl
 have HF:=AC hf
 clear hf
 by_cases h:80<s.size
 ·go_enter Tryz.func22,Tryz.ntmps22
  go_wp2
  go_ret
  exact⟨Cf (by rw [HF.out,if_pos h]),rfl⟩
 ·go_enter Tryz.func22,Tryz.ntmps22
  go_wp2
  go_ret
  exact⟨Cf (by rw [HF.out,if_neg h]),rfl⟩
end
section
open Go.ChangeShapes Go.WideShapes Go.ChangeAt Go.RowKit
def ko(n:Int):Bool:=decide (32≤n)&&decide (n≤126)
def bo(n:Int):Bool:=(decide (97≤n)&&decide (n≤122))||(decide (48≤n)&&decide (n≤57))||n==45
theorem Qk(n:Int)(w:World)(h0:0≤n)(h1:n≤255):
  Calls Tryz.prog 106 #[.int .u8 n] w fun e w'=>e=.returned (.bool (ko n))∧w=w':=by
 have HF:=AC (show ko n=(decide (32≤n)&&decide (n≤126)) from rfl)
 by_cases a:32≤n <;> by_cases b:n≤126
 all_goals
  go_enter Tryz.func106,Tryz.ntmps106
  go_wp2
  go_ret
  exact⟨AE (by rw [HF.out];simp [*]),rfl⟩
theorem Qn(n:Int)(w:World)(h0:0≤n)(h1:n≤255):
  Calls Tryz.prog 92 #[.int .u8 n] w fun e w'=>e=.returned (.bool (bo n))∧w=w':=by
 have HF:=AC (show bo n=((decide (97≤n)&&decide (n≤122))||(decide (48≤n)&&decide (n≤57))||n==45) from rfl)
 by_cases a:97≤n <;> by_cases b:n≤122 <;> by_cases c:48≤n <;> by_cases d:n≤57 <;> by_cases e:n=45
 all_goals first | (exfalso;omega) | skip
 all_goals
  have e':(n==45)=decide (n=45):=by rw [Bool.eq_iff_iff];simp
  have E:=AC e
  first | (have e1:(n==45)=true:=by simp [e]) | (have e1:(n==45)=false:=by simp [e])
  clear e e'
  go_enter Tryz.func92,Tryz.ntmps92
  go_wp2
  go_ret
  exact⟨AE (by rw [HF.out];simp [E.out, *]),rfl⟩
def Lj(p:Int→Bool)(s:ByteArray):Bool:=s.data.toList.all fun c=>p c.toNat
def BD(lo hi:Nat)(p:Int→Bool)(s:ByteArray):Bool:=decide (lo≤s.size)&&decide (s.size≤hi)&&Lj p s
theorem Lt(s:ByteArray)(k:Nat)(h:k<s.size):s.data.toList.take (k+1)=s.data.toList.take k ++ [s[k]]:=by
 rw [List.take_succ_eq_append_getElem (by simpa using h)];rfl
def Md(p:Int→Bool)(s:ByteArray)(k:Nat):Prop:=(s.data.toList.take k).all (fun c=>p c.toNat)=true
theorem Eo(p:Int→Bool)(s:ByteArray):Md p s 0:=by simp [Md]
theorem Ep{p:Int→Bool}{s:ByteArray}{k:Nat}(h:k<s.size)(a:Md p s k)(b:p (s[k].toNat:Int)=true):Md p s (k+1):=by
 unfold Md at *;rw [Lt s k h,List.all_append,a];simp [b]
theorem GQ{p:Int→Bool}{s:ByteArray}(a:Md p s s.size):Lj p s=true:=by
 unfold Md at a;rw [List.take_of_length_le (by simp)] at a;exact a
theorem EJ{p:Int→Bool}{s:ByteArray}{k:Nat}(h:k<s.size)(b:p (s[k].toNat:Int)=false):Lj p s=false:=by
 unfold Lj;rw [List.all_eq_false];exact⟨s[k],by rw [show s[k]=s.data.toList[k]'(by simpa using h) from rfl];exact List.getElem_mem _,by simp [b]⟩
theorem hasK(lo hi:Nat)(s:ByteArray)(w:World)(h1:lo≤1000)(h2:hi≤1000)(hs:s.size≤1000):
  Calls Tryz.prog 93 #[.agg #[.int .i64 lo,.int .i64 hi,.func (.func 106) #[] #[]],.string s] w fun e w'=>e=.returned (.bool (BD lo hi ko s))∧Q w w':=by
 have HF:=AC (show BD lo hi ko s=(decide (lo≤s.size)&&decide (s.size≤hi)&&Lj ko s) from rfl)
 have hq:∀ o,Q w (w.alloc o):=fun o=>(Q.refl w).alloc o
 have HQ:=AC hq
 clear hq
 by_cases a:lo≤s.size
 ·by_cases b:s.size≤hi
  ·go_enter Tryz.func93,Tryz.ntmps93
   go_wp2_with fail
   go_loopw [20] (fun i w1=>∃ k:Nat,k≤s.size∧i=.int .i64 k∧Md ko s k∧w1.cell? ⟨w.heap.size,2,none⟩=some (.func (.func 106) #[] #[])∧Q w w1) (fun i _=>s.size - (intOf i).toNat)
   case atStart=>exact⟨0,Nat.zero_le _,rfl,Eo _ _,by simp [go_sem],HQ.out _⟩
   case round=>
    obtain⟨k,hk,rfl,ho,hc,hq⟩:=hrel
    by_cases hlt:k<s.size
    ·have hb:s[k].toNat<256:=s[k].toNat_lt
     have h0:(0:Int)≤(s[k].toNat:Int):=by omega
     have h255:(s[k].toNat:Int)≤255:=by omega
     have hi1:(0:Int)≤(k:Int):=by omega
     by_cases hp:ko (s[k].toNat:Int)=true
     ·go_wp2_with fail
      go_quiet ((exact Bp (Qk _ _ h0 h255)))
      go_wp2
      go_roundw
      case rel=>exact⟨k+1,by omega,by go_num,Ep hlt ho hp,hc,hq.drewN _⟩
      case measure=>simp [intOf];omega
     ·have hp':ko (s[k].toNat:Int)=false:=by simpa using hp
      clear hp
      go_wp2_with fail
      go_quiet ((exact Bp (Qk _ _ h0 h255)))
      go_wp2
      go_ret
      exact⟨AE (by rw [HF.out,EJ hlt hp'];simp),hq.drewN _⟩
    ·obtain rfl:k=s.size:=by omega
     go_wp2
     go_ret
     exact⟨AE (by rw [HF.out,GQ ho];simp [a,b]),hq⟩
  ·go_enter Tryz.func93,Tryz.ntmps93
   go_wp2
   go_ret
   exact⟨AE (by rw [HF.out];simp [b]),HQ.out _⟩
 ·go_enter Tryz.func93,Tryz.ntmps93
  go_wp2
  go_ret
  exact⟨AE (by rw [HF.out];simp [a]),HQ.out _⟩
theorem T8(lo hi:Nat)(s:ByteArray)(w:World)(h1:lo≤1000)(h2:hi≤1000)(hs:s.size≤1000):
  Calls Tryz.prog 93 #[.agg #[.int .i64 lo,.int .i64 hi,.func (.func 92) #[] #[]],.string s] w fun e w'=>e=.returned (.bool (BD lo hi bo s))∧Q w w':=by
 have HF:=AC (show BD lo hi bo s=(decide (lo≤s.size)&&decide (s.size≤hi)&&Lj bo s) from rfl)
 have hq:∀ o,Q w (w.alloc o):=fun o=>(Q.refl w).alloc o
 have HQ:=AC hq
 clear hq
 by_cases a:lo≤s.size
 ·by_cases b:s.size≤hi
  ·go_enter Tryz.func93,Tryz.ntmps93
   go_wp2_with fail
   go_loopw [20] (fun i w1=>∃ k:Nat,k≤s.size∧i=.int .i64 k∧Md bo s k∧w1.cell? ⟨w.heap.size,2,none⟩=some (.func (.func 92) #[] #[])∧Q w w1) (fun i _=>s.size - (intOf i).toNat)
   case atStart=>exact⟨0,Nat.zero_le _,rfl,Eo _ _,by simp [go_sem],HQ.out _⟩
   case round=>
    obtain⟨k,hk,rfl,ho,hc,hq⟩:=hrel
    by_cases hlt:k<s.size
    ·have hb:s[k].toNat<256:=s[k].toNat_lt
     have h0:(0:Int)≤(s[k].toNat:Int):=by omega
     have h255:(s[k].toNat:Int)≤255:=by omega
     have hi1:(0:Int)≤(k:Int):=by omega
     by_cases hp:bo (s[k].toNat:Int)=true
     ·go_wp2_with fail
      go_quiet ((exact Bp (Qn _ _ h0 h255)))
      go_wp2
      go_roundw
      case rel=>exact⟨k+1,by omega,by go_num,Ep hlt ho hp,hc,hq.drewN _⟩
      case measure=>simp [intOf];omega
     ·have hp':bo (s[k].toNat:Int)=false:=by simpa using hp
      clear hp
      go_wp2_with fail
      go_quiet ((exact Bp (Qn _ _ h0 h255)))
      go_wp2
      go_ret
      exact⟨AE (by rw [HF.out,EJ hlt hp'];simp),hq.drewN _⟩
    ·obtain rfl:k=s.size:=by omega
     go_wp2
     go_ret
     exact⟨AE (by rw [HF.out,GQ ho];simp [a,b]),hq⟩
  ·go_enter Tryz.func93,Tryz.ntmps93
   go_wp2
   go_ret
   exact⟨AE (by rw [HF.out];simp [b]),HQ.out _⟩
 ·go_enter Tryz.func93,Tryz.ntmps93
  go_wp2
  go_ret
  exact⟨AE (by rw [HF.out];simp [a]),HQ.out _⟩
theorem Cn(s:ByteArray)(w:World)(hs:s.size≤1000):
  Calls Tryz.prog 57 #[.string s] w fun e w'=>e=.returned (.bool (BD 1 60 ko s))∧Q w w':=by
 go_enter Tryz.func57,Tryz.ntmps57
 go_wp2_with fail
 refine(hasK 1 60 _ _ (by omega) (by omega) hs).mono ?_
 rintro e w1 ⟨rfl,hq⟩
 go_wp2
 go_ret
 exact⟨rfl,hq⟩
def Al(s:ByteArray):Bool:=BD 3 20 bo s&&((s.data.toList.headD 0).toNat:Int) != 45&&((s.data.toList.getLastD 0).toNat:Int) != 45
theorem Ey{lo hi:Nat}{p:Int→Bool}{s:ByteArray}(h:BD lo hi p s=true):lo≤s.size∧s.size≤hi:=by
 simp [BD] at h;omega
theorem M3(s:ByteArray)(h:0<s.size):s.data.toList.headD 0=s[0]:=by
 obtain⟨⟨l⟩⟩:=s
 cases l with
 | nil=>simp [ByteArray.size] at h
 | cons a l=>rfl
theorem Mo(s:ByteArray)(h:0<s.size):s.data.toList.getLastD 0=s[s.size - 1]:=by
 obtain⟨⟨l⟩⟩:=s
 cases l with
 | nil=>simp [ByteArray.size] at h
 | cons a l=>
   show(a :: l).getLastD 0=(a :: l)[(a :: l).length - 1]
   rw [List.getLastD_eq_getLast?,List.getLast?_eq_getElem?];simp
theorem F2(s:ByteArray)(w:World)(hs:s.size≤1000):
  Calls Tryz.prog 44 #[.string s] w fun e w'=>e=.returned (.bool (Al s))∧Q w w':=by
 have HF:=AC (show Al s=(BD 3 20 bo s&&((s.data.toList.headD 0).toNat:Int) != 45&&((s.data.toList.getLastD 0).toNat:Int) != 45) from rfl)
 have hq:∀ o,Q w (w.alloc o):=fun o=>(Q.refl w).alloc o
 have HQ:=AC hq
 clear hq
 cases hh:BD 3 20 bo s with
 | false=>
   go_enter Tryz.func44,Tryz.ntmps44
   go_wp2_with fail
   refine(T8 3 20 _ _ (by omega) (by omega) hs).mono ?_
   rintro e w1 ⟨rfl,hq⟩
   go_wp2
   go_ret
   exact⟨AE (by rw [HF.out];simp [hh]),(HQ.out _).trans hq⟩
 | true=>
   have hz:=Ey hh
   have e0:=M3 s (by omega)
   have e1:=Mo s (by omega)
   rw [e0,e1] at HF
   clear e0 e1
   have i1:(0:Int)≤(s.size:Int) - 1:=by omega
   have i2:(s.size:Int) - 1<s.size:=by omega
   go_enter Tryz.func44,Tryz.ntmps44
   go_wp2_with fail
   refine(T8 3 20 _ _ (by omega) (by omega) hs).mono ?_
   rintro e w1 ⟨rfl,hq⟩
   go_wp2
   all_goals
    go_ret
    exact⟨AE (by rw [HF.out,hh];simp_all),(HQ.out _).trans hq⟩
end
section
open Go.ChangeShapes Go.WideShapes Go.ChangeAt Go.RowKit
theorem MI(s:ByteArray)(w:World)(hs:s.size≤1000):
  Calls Tryz.prog 125 #[.string s] w fun e w'=>e=.returned (.bool (Lj ko s))∧w=w':=by
 go_enter Tryz.func125,Tryz.ntmps125
 go_wp2_with fail
 go_loop [3] (fun i=>∃ k:Nat,k≤s.size∧i=.int .i64 k∧Md ko s k) (fun i=>s.size - (intOf i).toNat)
 case atStart=>exact⟨0,Nat.zero_le _,rfl,Eo _ _⟩
 case round=>
  obtain⟨k,hk,rfl,ho⟩:=hrel
  by_cases hlt:k<s.size
  ·have hb:s[k].toNat<256:=s[k].toNat_lt
   by_cases h1:32≤(s[k].toNat:Int)
   ·by_cases h2:(s[k].toNat:Int)≤126
    ·have ho':Md ko s (k+1):=Ep hlt ho (by simp [ko];omega)
     go_wp2
     go_round
     case rel=>exact⟨k+1,by omega,by go_num,ho'⟩
     case measure=>simp [intOf];omega
    ·have hn:Lj ko s=false:=EJ hlt (by simp [ko];omega)
     have HN:=AC hn
     clear hn
     go_wp2
     go_ret
     exact⟨AE (by rw [HN.out]),rfl⟩
   ·have hn:Lj ko s=false:=EJ hlt (by simp [ko];omega)
    have HN:=AC hn
    clear hn
    go_wp2
    go_ret
    exact⟨AE (by rw [HN.out]),rfl⟩
  ·obtain rfl:k=s.size:=by omega
   go_wp2
   go_ret
   exact⟨AE (GQ ho).symm,rfl⟩
theorem S8{s:ByteArray}(h:0<s.size):¬ s.toList=[]∧s.toList.isEmpty=false:=by
 have:s.toList.length=s.size:=by rw [ByteArray.toList_eq];exact Array.length_toList
 cases hl:s.toList with
 | nil=>rw [hl] at this;simp at this;omega
 | cons a l=>simp
theorem TF{s:ByteArray}(h:s.size=0):s.toList=[]:=by
 have:s.toList.length=s.size:=by rw [ByteArray.toList_eq];exact Array.length_toList
 cases hl:s.toList with
 | nil=>rfl
 | cons a l=>rw [hl] at this;simp at this;omega
theorem Bn(s:ByteArray)(w:World)(hs:s.size≤1000):
  Calls Tryz.prog 80 #[.string s] w fun e w'=>e=.returned (.bool (BD 1 60 ko s))∧w=w':=by
 have HF:=AC (show BD 1 60 ko s=(decide (1≤s.size)&&decide (s.size≤60)&&Lj ko s) from rfl)
 by_cases a:s.size=0
 ·have hn:=TF a
  go_enter Tryz.func80,Tryz.ntmps80
  go_wp2
  go_ret
  exact⟨AE (by rw [HF.out];simp [a]),rfl⟩
 ·obtain⟨h1,h2⟩:=S8 (s:=s) (by omega)
  by_cases b:s.size≤60
  ·go_enter Tryz.func80,Tryz.ntmps80
   go_wp2_with fail
   refine(MI _ _ hs).mono ?_
   rintro e w1 ⟨rfl,rfl⟩
   go_wp2
   go_ret
   exact⟨AE (by rw [HF.out];simp [b];omega),rfl⟩
  ·go_enter Tryz.func80,Tryz.ntmps80
   go_wp2
   go_ret
   exact⟨AE (by rw [HF.out];simp [b]),rfl⟩
def underO(k p:ByteArray):Bool:=decide (p.size≤k.size)&&(k.extract 0 p.size).toList==p.toList
def IH(s:ByteArray)(i:Nat)(n:Int):Bool:=(decide (97≤n)&&decide (n≤122))||(decide (48≤n)&&decide (n≤57))||(n==45 && !(i==0||i==s.size - 1))
def TW(s:ByteArray)(k:Nat):Prop:=∀ i (h:i<s.size),i<k→IH s i (s[i].toNat:Int)=true
theorem Nt{s:ByteArray}{k:Nat}(h:k<s.size)(a:TW s k)(b:IH s k (s[k].toNat:Int)=true):TW s (k+1):=by
 intro i hi hik
 by_cases e:i=k
 ·subst e;exact b
 ·exact a i hi (by omega)
theorem Qd{p:Int→Bool}{s:ByteArray}: Lj p s=true↔∀ i (h:i<s.size),p (s[i].toNat:Int)=true:=by
 unfold Lj
 rw [List.all_eq_true]
 constructor
 ·intro h i hi
  exact h s[i] (by rw [show s[i]=s.data.toList[i]'(by simpa using hi) from rfl];exact List.getElem_mem _)
 ·intro h c hc
  obtain⟨i,hi,rfl⟩:=List.getElem_of_mem hc
  exact h i (by simpa using hi)
theorem FJ{s:ByteArray}(h3:3≤s.size)(h20:s.size≤20):Al s=true↔∀ i (h:i<s.size),IH s i (s[i].toNat:Int)=true:=by
 unfold Al BD
 rw [M3 s (by omega),Mo s (by omega)]
 simp only [Bool.and_eq_true,Qd,bne_iff_ne,decide_eq_true_eq,ne_eq]
 constructor
 ·rintro⟨⟨⟨_,h⟩,e0⟩,e1⟩ i hi
  have hb:=h i hi
  unfold bo at hb
  unfold IH
  simp only [Bool.or_eq_true,Bool.and_eq_true,decide_eq_true_eq,beq_iff_eq,Bool.not_eq_true'] at hb ⊢
  rcases hb with(hb | hb) | hb
  ·exact .inl (.inl hb)
  ·exact .inl (.inr hb)
  ·refine .inr ⟨hb,?_⟩
   simp only [Bool.or_eq_false_iff,beq_eq_false_iff_ne,ne_eq]
   refine⟨?_,?_⟩
   ·rintro rfl;exact e0 hb
   ·rintro rfl;exact e1 hb
 ·intro h
  refine⟨⟨⟨⟨by omega,by omega⟩,?_⟩,?_⟩,?_⟩
  ·intro i hi
   have hb:=h i hi
   unfold IH at hb
   unfold bo
   simp only [Bool.or_eq_true,Bool.and_eq_true,decide_eq_true_eq,beq_iff_eq,Bool.not_eq_true'] at hb ⊢
   rcases hb with hb | hb
   ·exact .inl hb
   ·exact .inr hb.1
  ·intro e
   have hb:=h 0 (by omega)
   unfold IH at hb
   simp [e] at hb
  ·intro e
   have hb:=h (s.size - 1) (by omega)
   unfold IH at hb
   simp [e] at hb
theorem Qc{s:ByteArray}(h3:3≤s.size)(h20:s.size≤20)(h:TW s s.size):Al s=true:=
 (FJ h3 h20).2 fun i hi=>h i hi hi
theorem Qb{s:ByteArray}(h3:3≤s.size)(h20:s.size≤20){i:Nat}(h:i<s.size)(b:IH s i (s[i].toNat:Int)=false):Al s=false:=by
 cases e:Al s with
 | false=>rfl
 | true=>have:=(FJ h3 h20).1 e i h;rw [b] at this;cases this
theorem IZ(s:ByteArray)(w:World)(hs:s.size≤1000):
  Calls Tryz.prog 50 #[.string s] w fun e w'=>e=.returned (.bool (Al s))∧w=w':=by
 have hz:Al s=true→3≤s.size∧s.size≤20:=fun h=>by
  unfold Al at h;simp only [Bool.and_eq_true] at h;exact Ey h.1.1
 by_cases a:3≤s.size
 ·by_cases b:s.size≤20
  ·clear hz
   go_enter Tryz.func50,Tryz.ntmps50
   go_wp2_with fail
   go_loop [3] (fun i=>∃ k:Nat,k≤s.size∧i=.int .i64 k∧TW s k) (fun i=>s.size - (intOf i).toNat)
   case atStart=>exact⟨0,Nat.zero_le _,rfl,fun _ _ h=>by omega⟩
   case round=>
    obtain⟨k,hk,rfl,ho⟩:=hrel
    by_cases hlt:k<s.size
    ·have hb:s[k].toNat<256:=s[k].toNat_lt
     have hd:k≤0∨(0<k∧k+1<s.size)∨(0<k∧s.size≤k+1):=by omega
     have hc:(97≤(s[k].toNat:Int)∧(s[k].toNat:Int)≤122)∨(48≤(s[k].toNat:Int)∧(s[k].toNat:Int)≤57)∨(45≤(s[k].toNat:Int)∧(s[k].toNat:Int)≤45)
      ∨(s[k].toNat:Int)<45∨(45<(s[k].toNat:Int)∧(s[k].toNat:Int)<48)∨(57<(s[k].toNat:Int)∧(s[k].toNat:Int)<97)∨122<(s[k].toNat:Int):=by omega
     have hg:IH s k (s[k].toNat:Int)=true→TW s (k+1):=Nt hlt ho
     have hn:IH s k (s[k].toNat:Int)=false→Al s=false:=Qb a b hlt
     have HG:=AC hg
     have HN:=AC hn
     have HD:=AC hd
     clear hg hn
     rcases hd with d | ⟨d,d'⟩ | ⟨d,d'⟩
     ·obtain rfl:k=0:=by omega
      clear d HD
      rcases hc with⟨c,c'⟩ | ⟨c,c'⟩ | ⟨c,c'⟩ | c | ⟨c,c'⟩ | ⟨c,c'⟩ | c
      all_goals
       go_wp2
      all_goals
       first
        | (exfalso;rename_i h;simp at h;omega)
        | (go_round
           case rel=>exact⟨1,by omega,rfl,HG.out (by unfold IH;simp;omega)⟩
           case measure=>simp [intOf];omega)
        | (go_ret;exact⟨AE (HN.out (by unfold IH;simp;omega)).symm,rfl⟩)
     ·clear HD
      have b1:((k:Int)==0)=false:=by simp;omega
      have b2:((k:Int)==(s.size:Int) - 1)=false:=by simp;omega
      rcases hc with⟨c,c'⟩ | ⟨c,c'⟩ | ⟨c,c'⟩ | c | ⟨c,c'⟩ | ⟨c,c'⟩ | c
      all_goals
       go_wp2
      all_goals
       first
        | (exfalso;rename_i h;simp at h;omega)
        | (go_round
           case rel=>exact⟨k+1,by omega,by go_num,HG.out (by unfold IH;simp;omega)⟩
           case measure=>simp [intOf];omega)
        | (go_ret;exact⟨AE (HN.out (by unfold IH;simp;omega)).symm,rfl⟩)
     ·clear HD
      have b1:((k:Int)==0)=false:=by simp;omega
      have b2:((k:Int)==(s.size:Int) - 1)=true:=by simp;omega
      rcases hc with⟨c,c'⟩ | ⟨c,c'⟩ | ⟨c,c'⟩ | c | ⟨c,c'⟩ | ⟨c,c'⟩ | c
      all_goals
       go_wp2
      all_goals
       first
        | (exfalso;rename_i h;simp at h;omega)
        | (go_round
           case rel=>exact⟨k+1,by omega,by go_num,HG.out (by unfold IH;simp;omega)⟩
           case measure=>simp [intOf];omega)
        | (go_ret;exact⟨AE (HN.out (by unfold IH;simp;omega)).symm,rfl⟩)
    ·obtain rfl:k=s.size:=by omega
     go_wp2
     go_ret
     exact⟨AE (Qc a b ho).symm,rfl⟩
  ·have hn:Al s=false:=by cases h:Al s with
    | false=>rfl
    | true=>have:=hz h;omega
   have HN:=AC hn
   clear hn hz
   go_enter Tryz.func50,Tryz.ntmps50
   go_wp2
   go_ret
   exact⟨AE (by rw [HN.out]),rfl⟩
 ·have hn:Al s=false:=by cases h:Al s with
   | false=>rfl
   | true=>have:=hz h;omega
  have HN:=AC hn
  clear hn hz
  go_enter Tryz.func50,Tryz.ntmps50
  go_wp2
  go_ret
  exact⟨AE (by rw [HN.out]),rfl⟩
end
end Go.Proofs.YtjjlbbfhmpbneaaGreat
