/-
  Plain facts on numbers' digits. Plain facts on tags: the register, the text, how many. Contracts of the register: the program's step, More, Of, and the document's step, Of, More. Contracts of the program's step, More, Of. Contracts of the program's digits, Text, countText, isMany. Plain facts on digits read, and contracts of the program's digit, number, Parse, count, Read. Contracts of the program's digit, number, Parse, count, Read. Contracts of the document's Text, Parse, Count. Contracts of the document's Parse and Read. Slices of tags, and contracts of the program's Many and the document's. Contracts of the document's step, Of, More. Contract of the document's Many.
-/
import Derived.Test.YtjjlbbfhmpbneaaGreatLa
import Derived.Lib.VarintMem
import Derived.Laws.BitsAllLaws
import Derived.Deep.RegionWith
namespace Go.Proofs.YtjjlbbfhmpbneaaGreat
open Lib renaming hid → AC
set_option maxHeartbeats 16000000
set_option maxRecDepth 100000
set_option linter.unusedVariables false
set_option linter.unusedSimpArgs false
section
open Go.ChangeShapes Go.WideShapes Go.ChangeAt Go.RowKit
def dig(n:Nat):UInt8:=(48+n%10).toUInt8
def dg0(n:Nat):List UInt8:=if h:n=0 then[] else dg0 (n/10) ++ [dig n]
termination_by n
decreasing_by omega
def Jr(n:Nat):List UInt8:=dg0 (n/10) ++ [dig n]
theorem Ge:dg0 0=[]:=by rw [dg0];simp
theorem NY{n:Nat}(h:n≠0):dg0 n=Jr n:=by rw [dg0,dif_neg h,Jr]
theorem Js{n:Nat}(h:n≠0):dg0 n=dg0 (n/10) ++ [dig n]:=by rw [dg0,dif_neg h]
theorem SK(n:Nat):(dig n).toNat=48+n%10:=by rw [dig,Lib.toUInt8_toNat (by omega)]
def vd(n:Nat)(l:List UInt8):Nat:=l.foldl (fun n c=>10*n+(c.toNat - 48)) n
def isD(c:UInt8):Prop:=48≤c.toNat∧c.toNat≤57
theorem SJ(n:Nat):Jr n≠[]:=by simp [Jr]
theorem SO(k n:Nat)(h:n<10 ^ k):(dg0 n).length≤k:=by
 induction k generalizing n with
 | zero=>
      obtain rfl:n=0:=by simp at h;exact h
      simp [Ge]
 | succ k ih=>
   by_cases h0:n=0
   ·subst h0;simp [Ge]
   ·rw [Js h0,List.length_append]
    have:=ih (n/10) (by rw [Nat.pow_succ] at h;omega)
    simp;omega
theorem EX{n:Nat}(h:n≤1099511627775):(Jr n).length≤13:=by
 rw [Jr,List.length_append]
 have:=SO 12 (n/10) (by omega)
 simp;omega
def acc(n:Nat):List UInt8→Option Nat
 | []=>some n
 | c :: r=>if 48≤c.toNat∧c.toNat≤57 then(if 10*n+(c.toNat - 48)≤1099511627775 then acc (10*n+(c.toNat - 48)) r else none) else none
def num(l:List UInt8):Option Nat:=if l=[] then none else if l.head?=some 48∧l≠[48] then none else acc 0 l
end
section
open Go.ChangeShapes Go.WideShapes Go.ChangeAt Go.RowKit
def Sj:Nat:=2197175160
def t1(c:Nat):Nat:=if c%2=1 then(c/2) ^^^ Sj else c/2
def t8(c:Nat):Nat:=t1 (t1 (t1 (t1 (t1 (t1 (t1 (t1 c)))))))
def stp(c x:Nat):Nat:=t8 (c ^^^ x)
def reg(c:Nat)(l:List UInt8):Nat:=l.foldl (fun c x=>stp c x.toNat) c
def more(t:Nat)(l:List UInt8):Nat:=4294967295 - reg (4294967295 - t) l
def crc(l:List UInt8):Nat:=4294967295 - reg 4294967295 l
theorem JV{a b:Nat}(ha:a<4294967296)(hb:b<4294967296):a ^^^ b<4294967296:=Nat.xor_lt_two_pow (n:=32) ha hb
theorem FR{c:Nat}(h:c<4294967296):t1 c<4294967296:=by
 unfold t1
 split
 ·exact JV (by omega) (by decide)
 ·omega
theorem St{c:Nat}(h:c<4294967296):t8 c<4294967296:=by
 unfold t8
 exact FR (FR (FR (FR (FR (FR (FR (FR h)))))))
theorem Sv{c x:Nat}(h:c<4294967296)(hx:x<256):stp c x<4294967296:=St (JV h (by omega))
theorem MJ(c:Nat):reg c []=c:=List.foldl_nil
theorem JG(c:Nat)(x:UInt8)(l:List UInt8):reg c (x :: l)=reg (stp c x.toNat) l:=List.foldl_cons ..
theorem Hz(l:List UInt8):crc l<4294967296:=by unfold crc;omega
theorem Mj(l:List UInt8):more 0 l=crc l:=rfl
theorem PY(a b:Nat):(a ^^^ b)%2=(a%2+b%2)%2:=by
 have:=Nat.xor_mod_two_pow (a:=a) (b:=b) (n:=1)
 simp only [Nat.pow_one] at this
 rw [this]
 rcases Nat.mod_two_eq_zero_or_one a with h | h <;> rcases Nat.mod_two_eq_zero_or_one b with k | k <;> rw [h,k] <;> rfl
theorem QL(a b:Nat):(a ^^^ b)/2=(a/2) ^^^ (b/2):=by
 have:=Nat.shiftRight_xor_distrib (a:=a) (b:=b) (i:=1)
 simpa [Nat.shiftRight_succ] using this
theorem xx(a b:Nat):a ^^^ (a ^^^ b)=b:=by rw [← Nat.xor_assoc,Nat.xor_self,Nat.zero_xor]
theorem Su(a b:Nat):t1 (a ^^^ b)=t1 a ^^^ t1 b:=by
 have hm:=PY a b
 unfold t1
 rcases Nat.mod_two_eq_zero_or_one a with h | h <;> rcases Nat.mod_two_eq_zero_or_one b with k | k <;> rw [h,k] at hm <;> simp only [h,k,hm,QL]
 ·simp
 ·simp;rw [Nat.xor_assoc]
 ·simp;rw [Nat.xor_assoc,Nat.xor_assoc,Nat.xor_comm (b/2)]
 ·simp
  rw [Nat.xor_assoc,Nat.xor_comm (b/2) Sj,xx]
theorem Ss(a b:Nat):t8 (a ^^^ b)=t8 a ^^^ t8 b:=by unfold t8;simp only [Su]
def xl:List UInt8→List UInt8→List UInt8
 | x :: a,y :: b=>(x ^^^ y) :: xl a b
 | _,_=>[]
theorem flip{x:Nat}(h:x<4294967296):4294967295 - x=4294967295 ^^^ x:=by
 have h1:(4294967295 ^^^ x)=4294967295 - x:=by
  apply Nat.eq_of_testBit_eq
  intro i
  have e1:(4294967295:Nat)=2 ^ 32 - 1:=rfl
  rw [e1,Nat.testBit_xor,Nat.testBit_two_pow_sub_one,show 2 ^ 32 - 1 - x=2 ^ 32 - (x+1) by omega,Nat.testBit_two_pow_sub_succ h]
  by_cases hi:i<32
  ·simp [hi]
  ·have:x.testBit i=false:=Nat.testBit_lt_two_pow (Nat.lt_of_lt_of_le h (Nat.pow_le_pow_right (n:=2) (by omega) (by omega:32≤i)))
   simp [hi,this]
 exact h1.symm
def hx(d:Nat):UInt8:=if d<10 then(48+d).toUInt8 else(87+d).toUInt8
def Ft:Nat→Nat→List UInt8
 | 0,_=>[]
 | k+1,t=>Ft k (t/16) ++ [hx (t%16)]
theorem Ex(k t:Nat):(Ft k t).length=k:=by
 induction k generalizing t with
 | zero=>rfl
 | succ k ih=>rw [Ft,List.length_append,ih];rfl
theorem TG{d:Nat}(h:d<16):(hx d).toNat=if d<10 then 48+d else 87+d:=by
 have:∀ d,d<16→(hx d).toNat=if d<10 then 48+d else 87+d:=by decide
 exact this d h
def rv(c:UInt8):Nat:=if 48≤c.toNat∧c.toNat≤57 then c.toNat+4294967296 - 48 else c.toNat+4294967296 - 87
def To(t:Nat)(c:UInt8):Nat:=(16*t+rv c)%4294967296
def T0(l:List UInt8):Nat:=l.foldl To 0
def Tz(l:List UInt8):Option Nat:=if Ft 8 (T0 l)=l then some (T0 l) else none
def cnt(n:Nat):List UInt8:=45 :: Jr n
def cntP:List UInt8→Option Nat
 | []=>none
 | c :: r=>if c=45 then(match num r with | some n=>if 1≤n∧n≤100 then some n else none | none=>none) else none
def readP(l:List UInt8):Option (Nat×Nat):=
 match Tz l with
 | some t=>some (t,0)
 | none=>match Tz (l.take 8),cntP (l.drop 8) with
   | some t,some n=>some (t,n)
   | _,_=>none
def oc4(t:Nat):List UInt8:=[(t/16777216).toUInt8,(t/65536%256).toUInt8,(t/256%256).toUInt8,(t%256).toUInt8]
def DA(l:List Nat):List UInt8:=Ft 8 (crc (l.flatMap oc4))++cnt l.length
end
section
open Go.ChangeShapes Go.WideShapes Go.ChangeAt Go.RowKit
theorem and1{r:Nat}(h:r<4294967296):bits .and .u32 (r:Int) 1=((r%2:Nat):Int):=by
 have:=u32_and_nat r 1 h (by omega)
 rw [Nat.and_one_is_mod] at this
 exact this
theorem xorP{r:Nat}(h:r<4294967296):bits .xor .u32 (r:Int) 2197175160=((r ^^^ Sj:Nat):Int):=u32_xor_nat r 2197175160 h (by omega)
theorem S7{r:Nat}(h:r<4294967296):bits .xor .u32 IntKind.u32.max (r:Int)=((4294967295 - r:Nat):Int):=by
 rw [flip h,show IntKind.u32.max=((4294967295:Nat):Int) by decide];exact u32_xor_nat 4294967295 r (by omega) h
def t1n:Nat→Nat→Nat
 | 0,c=>c
 | k+1,c=>t1n k (t1 c)
theorem Qh{c:Nat}(h:c%2=1):t1 c=(c/2) ^^^ Sj:=by rw [t1,if_pos h]
theorem IP{c:Nat}(h:c%2=0):t1 c=c/2:=by rw [t1,if_neg (by omega)]
theorem RA(h:Nat):t8 (256*h)=h:=by
 have e:∀ m,t1 (2*m)=m:=fun m=>by rw [IP (by omega)];omega
 rw [show 256*h=2*(2*(2*(2*(2*(2*(2*(2*h))))))) by omega,t8]
 simp only [e]
theorem Oh(c:Nat):c=(256*(c/256)) ^^^ (c%256):=by
 apply Nat.eq_of_testBit_eq
 intro i
 rw [Nat.testBit_xor,show 256*(c/256)=2 ^ 8*(c/256) by rfl,Nat.testBit_two_pow_mul,show c%256=c%2 ^ 8 by rfl,Nat.testBit_mod_two_pow,show c/256=c/2 ^ 8 by rfl,Nat.testBit_div_two_pow]
 by_cases h:i<8
 ·have:¬ 8≤i:=by omega
  simp [h,this]
 ·have h2:8≤i:=by omega
  simp [h,h2]
theorem RD(c x:Nat):stp c x=(c/256) ^^^ t8 ((c%256) ^^^ x):=by
 rw [stp]
 conv=>lhs;rw [Oh c]
 rw [Nat.xor_assoc,Ss,RA]
end
section
open Go.ChangeShapes Go.WideShapes Go.ChangeAt Go.RowKit
theorem Tx{r:Nat}(h:r<4294967296):bits .xor .u32 ((r:Int)/2) 2197175160=((r/2 ^^^ Sj:Nat):Int):=by
 rw [← xorP (r:=r/2) (by omega)];rfl
theorem Og(x:Nat)(w:World)(hx:x<256):
  Calls Tryz.prog 181 #[.int .u8 x] w fun e w'=>e=.returned (.int .u32 (t8 x:Nat))∧w=w':=by
 go_enter Tryz.func181,Tryz.ntmps181
 go_wp2_with fail
 go_loop [3,7] (fun R I=>∃ i r:Nat,i≤8∧r<4294967296∧I=.int .i64 i∧R=.int .u32 r∧Hid (t8 x=t1n (8 - i) r)) (fun _ I=>8 - (intOf I).toNat)
 case atStart=>exact⟨0,x,by omega,by omega,rfl,by go_num,AC rfl⟩
 case round=>
  obtain⟨i,r,hi,hr,rfl,rfl,HM⟩:=hrel
  by_cases hlt:i<8
  ·have HM2:Hid (t8 x=t1n (8 - (i+1)) (t1 r)):=AC (by rw [HM.out,show 8 - i=8 - (i+1)+1 by omega,t1n])
   have ha:=and1 hr
   have hl:=FR hr
   rcases Nat.mod_two_eq_zero_or_one r with h | h
   ·rw [IP h] at HM2 hl
    rw [h] at ha
    go_wp2
    go_round
    case rel=>exact⟨i+1,r/2,by omega,hl,by go_num,by go_num,HM2⟩
    case measure=>simp [intOf];omega
   ·rw [Qh h] at HM2 hl
    rw [h] at ha
    have hb:=Tx hr
    go_wp2
    go_round
    case rel=>exact⟨i+1,_,by omega,hl,by go_num,by go_num,HM2⟩
    case measure=>simp [intOf];omega
  ·rw [show 8 - i=0 by omega,t1n] at HM
   go_wp2
   go_ret
   exact⟨by rw [HM.out];rfl,rfl⟩
theorem xor8{a:Nat}(x:Nat)(hx:x<256):bits .xor .u8 ((a:Int)%256) (x:Int)=((a%256 ^^^ x:Nat):Int):=by
 rw [← u8_xor_nat (a%256) x (by omega) hx];rfl
theorem Sn{a b:Nat}(ha:a<4294967296)(hb:b<4294967296):bits .xor .u32 ((a:Int)/256) (b:Int)=((a/256 ^^^ b:Nat):Int):=by
 rw [← u32_xor_nat (a/256) b (by omega) hb];rfl
theorem J9{a x:Nat}(hx:x<256):a%256 ^^^ x<256:=Nat.xor_lt_two_pow (n:=8) (by omega) (by omega)
theorem Jo(s:ByteArray){k:Nat}(h:k<s.size):(bl s).drop k=s[k] :: (bl s).drop (k+1):=by
 rw [List.drop_eq_getElem_cons (by rw [Ba];exact h)];rfl
theorem Jn(s:ByteArray):(bl s).drop s.size=[]:=by rw [List.drop_eq_nil_iff,Ba];exact Nat.le_refl _
theorem PX(t:Nat)(s:ByteArray)(w:World)(ht:t<4294967296)(hs:s.size≤5000):
  Calls Tryz.prog 165 #[.int .u32 t,.string s] w fun e w'=>e=.returned (.int .u32 (more t (bl s):Nat))∧w=w':=by
 have hn:=S7 ht
 go_enter Tryz.func165,Tryz.ntmps165
 go_wp2_with fail
 go_loop [5,11] (fun R I=>∃ i r:Nat,i≤s.size∧r<4294967296∧I=.int .i64 i∧R=.int .u32 r∧Hid (reg (4294967295 - t) (bl s)=reg r ((bl s).drop i))) (fun _ I=>s.size - (intOf I).toNat)
 case atStart=>exact⟨0,4294967295 - t,by omega,by omega,rfl,by go_num,AC (by rw [List.drop_zero])⟩
 case round=>
  obtain⟨i,r,hi,hr,rfl,rfl,HM⟩:=hrel
  clear hn
  by_cases hlt:i<s.size
  ·rw [Jo s hlt,JG,RD] at HM
   have hx:=UInt8.toNat_lt s[i]
   have h8:=xor8 (a:=r) s[i].toNat hx
   have hl:=J9 (a:=r) hx
   have ht8:=St (c:=r%256 ^^^ s[i].toNat) (by omega)
   have hu:=Sn hr ht8
   have hr2:r/256 ^^^ t8 (r%256 ^^^ s[i].toNat)<4294967296:=JV (by omega) ht8
   have C:=AC (fun w=>Og _ w hl)
   go_wp2_with fail
   refine(C.out _).mono ?_
   rintro e w1 ⟨rfl,rfl⟩
   go_wp2
   go_round
   case rel=>exact⟨i+1,_,by omega,hr2,by go_num,by go_num,HM⟩
   case measure=>simp [intOf];omega
  ·obtain rfl:i=s.size:=by omega
   rw [Jn,MJ] at HM
   have hn:=S7 hr
   go_wp2
   go_ret
   exact⟨by rw [more,HM.out];rfl,rfl⟩
theorem JQ(s:ByteArray)(w:World)(hs:s.size≤5000):
  Calls Tryz.prog 146 #[.string s] w fun e w'=>e=.returned (.int .u32 (crc (bl s):Nat))∧w=w':=by
 have C:=AC (fun w=>PX 0 s w (by omega) hs)
 rw [Mj] at C
 go_enter Tryz.func146,Tryz.ntmps146
 go_wp2_with fail
 refine(C.out _).mono ?_
 rintro e w1 ⟨rfl,rfl⟩
 go_wp2
 go_ret
 exact⟨rfl,rfl⟩
end
section
open Go.ChangeShapes Go.WideShapes Go.ChangeAt Go.RowKit
theorem toQ{P:Program}{f:FuncId}{args:Array Value}{w:World}{v:Value}(h:Calls P f args w fun e w'=>e=.returned v∧D w w'):Calls P f args w fun e w'=>e=.returned v∧Q w w':=
 h.mono fun _ _ ⟨a,b⟩=>⟨a,b.q⟩
abbrev sym:ByteArray:=⟨#[48,49,50,51,52,53,54,55,56,57,97,98,99,100,101,102]⟩
theorem Lu(d:Nat)(h:d<16):sym.extract d (d+1)=mk [hx d]:=by
 have:∀ d,d<16→sym.extract d (d+1)=mk [hx d]:=by decide +kernel
 exact this d h
theorem Ck(a b:List UInt8):mk a++mk b=mk (a++b):=by apply FL;rw [CR,FK,FK,FK]
def LeftH(n k m:Nat)(t:ByteArray):Prop:=m<16 ^ k∧k+t.size=8∧Ft 8 n=Ft k m++bl t
theorem LeftH.step{n k m:Nat}{t:ByteArray}(h:LeftH n (k+1) m t):LeftH n k (m/16) (mk [hx (m%16)]++t):=by
 obtain⟨h1,h2,h3⟩:=h
 refine⟨by rw [Nat.pow_succ] at h1;omega,by rw [ByteArray.size_append,BW];simp;omega,?_⟩
 rw [h3,Ft,CR,FK,List.append_assoc]
theorem LeftH.last{n m:Nat}{t:ByteArray}(h:LeftH n 0 m t):m=0∧t.size=8∧t=mk (Ft 8 n):=by
 obtain⟨h1,h2,h3⟩:=h
 refine⟨by simp at h1;exact h1,by omega,?_⟩
 rw [h3,Ft,List.nil_append,PZ]
def szN:Value→Nat | .string s=>s.size | _=>0
theorem Ky(n:Nat)(w:World)(hn:n<4294967296):
  Calls Tryz.prog 183 #[.int .u32 n,.int .u32 16,.int .i64 8] w fun e w'=>e=.returned (.string (mk (Ft 8 n)))∧D w w':=by
 go_enter Tryz.func183,Tryz.ntmps183
 go_wp2_with fail
 go_loopw [0,7] (fun N S wr=>∃ (k m:Nat) (t:ByteArray),m<4294967296∧N=.int .u32 m∧S=.string t∧t.size≤8∧Hid (LeftH n k m t)∧D w wr) (fun _ S _=>8 - szN S)
 case atStart=>exact⟨8,n,⟨#[]⟩,hn,rfl,rfl,by decide,AC ⟨hn,rfl,by simp [bl]⟩,D.refl _⟩
 case round=>
  obtain⟨k,m,t,hm,rfl,rfl,ht,HL,q⟩:=hrel
  cases k with
  | zero=>
    obtain⟨rfl,h8,h9⟩:=HL.out.last
    have HV:=AC h9
    clear h9
    go_wp2
    go_ret
    exact⟨Cf HV.out,q⟩
  | succ k=>
    have hlt:t.size<8:=by have:=HL.out.2.1;omega
    have HS:=AC HL.out.step
    have hc:=Lu (m%16) (Nat.mod_lt _ (by omega))
    obtain⟨d,hd⟩:∃ d,d=mk [hx (m%16)]:=⟨_,rfl⟩
    rw [← hd] at hc HS
    have hd1:d.size=1:=by rw [hd];rfl
    have hsz:(d++t).size=t.size+1:=by rw [ByteArray.size_append];omega
    have hsz2:(d++t).size≤8:=by omega
    clear hd
    have hb:m%16<16:=Nat.mod_lt _ (by omega)
    have hb2:(m:Int)%16+1≤16:=by omega
    have hb3:(0:Int)≤(m:Int)%16:=by omega
    by_cases h0:m=0
    ·subst h0
     have hc0:sym.extract 0 1=d:=hc
     clear hc hb hb2 hb3
     go_wp2
     go_region
     go_wp2
     go_roundw
     case rel=>exact⟨k,0,_,by omega,by go_num,rfl,hsz2,HS,q.drew⟩
     case measure=>simp only [szN];rw [hsz];omega
    ·have hp:0<m:=by omega
     go_wp2
     go_region
     go_wp2
     go_roundw
     case rel=>exact⟨k,m/16,_,Nat.lt_of_le_of_lt (Nat.div_le_self m 16) hm,by go_num,rfl,hsz2,HS,q.drew⟩
     case measure=>simp only [szN];rw [hsz];omega
theorem RC(m:Nat):sym.extract (m%10) (m%10+1)=mk [dig m]:=by
 rw [Lu _ (by omega)]
 congr 2
 apply UInt8.toNat_inj.1
 rw [SK,TG (by omega),if_pos (by omega)]
def Left(n m:Nat)(t:ByteArray):Prop:=Jr n=dg0 m++bl t
theorem Left.step{n m:Nat}{t:ByteArray}(h:Left n m t)(hm:m≠0):Left n (m/10) (mk [dig m]++t):=by
 unfold Left at h ⊢
 rw [h,Js hm,CR,FK,List.append_assoc]
theorem Left.size{n m:Nat}{t:ByteArray}(h:Left n m t)(hn:n≤100):t.size≤13:=by
 have h1:=EX (n:=n) (by omega)
 unfold Left at h
 rw [h,List.length_append,Ba] at h1;omega
theorem Left.last{n:Nat}{t:ByteArray}(h:Left n 0 t):t=mk (Jr n):=by
 unfold Left at h
 rw [h,Ge,List.nil_append,PZ]
theorem Left.pos{n:Nat}{t:ByteArray}(h:Left n 0 t):0<t.size:=by
 rw [h.last,BW]
 exact List.length_pos_iff.2 (SJ n)
theorem Kz(n:Nat)(w:World)(h1:1≤n)(hn:n≤100):
  Calls Tryz.prog 183 #[.int .u32 n,.int .u32 10,.int .i64 1] w fun e w'=>e=.returned (.string (mk (Jr n)))∧D w w':=by
 go_enter Tryz.func183,Tryz.ntmps183
 go_wp2_with fail
 go_loopw [0,7] (fun N S wr=>∃ (m:Nat) (t:ByteArray),m≤100∧N=.int .u32 m∧S=.string t∧t.size≤13∧Hid (Left n m t)∧D w wr) (fun N _ _=>(intOf N).toNat)
 case atStart=>exact⟨n,⟨#[]⟩,hn,rfl,rfl,by decide,AC (by rw [Left,NY (by omega)];simp [bl]),D.refl _⟩
 case round=>
  obtain⟨m,t,hm,rfl,rfl,ht,HL,q⟩:=hrel
  by_cases h0:m=0
  ·subst h0
   have hp:=HL.out.pos
   have HV:=AC HL.out.last
   have hlt:¬ ((t.size:Int)<1):=by omega
   go_wp2
   go_ret
   exact⟨Cf HV.out,q⟩
  ·have HS:=AC (HL.out.step h0)
   have hc:=RC m
   obtain⟨d,hd⟩:∃ d,d=mk [dig m]:=⟨_,rfl⟩
   rw [← hd] at hc HS
   have hd1:d.size=1:=by rw [hd];rfl
   have HZ:=AC (HS.out.size hn)
   clear hd
   have hp:0<m:=by omega
   have hb:m%10<10:=Nat.mod_lt _ (by omega)
   have hb2:(m:Int)%10+1≤16:=by omega
   have hb3:(0:Int)≤(m:Int)%10:=by omega
   clear h0
   go_wp2
   go_region
   go_wp2
   go_roundw
   case rel=>exact⟨m/10,_,by omega,by go_num,rfl,HZ.out,HS,q.drew⟩
   case measure=>simp [intOf];omega
theorem Sp(n:Nat)(w:World)(hn:n<4294967296):
  Calls Tryz.prog 171 #[.int .u32 n] w fun e w'=>e=.returned (.string (mk (Ft 8 n)))∧D w w':=by
 have C:=AC fun w=>Ky n w hn
 go_enter Tryz.func171,Tryz.ntmps171
 go_wp2_with fail
 refine(C.out _).mono ?_
 rintro e w1 ⟨rfl,q⟩
 go_wp2
 go_ret
 exact⟨rfl,q⟩
theorem I4(n:Nat)(w:World)(h1:1≤n)(hn:n≤100):
  Calls Tryz.prog 172 #[.int .i64 n] w fun e w'=>e=.returned (.string (mk (cnt n)))∧D w w':=by
 have C:=AC fun w=>Kz n w h1 hn
 have hl:=EX (n:=n) (by omega)
 have HC:Hid ((⟨#[45]⟩:ByteArray)++mk (Jr n)=mk (cnt n)):=AC (by rw [cnt,show(⟨#[45]⟩:ByteArray)=mk [45] by rfl,Ck];rfl)
 have hz:(mk (Jr n)).size≤13:=by rw [BW];omega
 obtain⟨d,hd⟩:∃ d,d=mk (Jr n):=⟨_,rfl⟩
 rw [← hd] at C HC hz
 clear hd hl
 go_enter Tryz.func172,Tryz.ntmps172
 go_wp2_with fail
 refine(C.out _).mono ?_
 rintro e w1 ⟨rfl,q⟩
 go_wp2
 go_ret
 exact⟨Cf HC.out,q⟩
theorem Od(n:Nat)(w:World)(hn:n<4294967296):
  Calls Tryz.prog 171 #[.int .u32 n] w fun e w'=>e=.returned (.string (mk (Ft 8 n)))∧Q w w':=toQ (Sp n w hn)
theorem Gh(n:Nat)(w:World)(h1:1≤n)(hn:n≤100):
  Calls Tryz.prog 172 #[.int .i64 n] w fun e w'=>e=.returned (.string (mk (cnt n)))∧Q w w':=toQ (I4 n w h1 hn)
theorem Ku(n:Int)(w:World):
  Calls Tryz.prog 170 #[.int .i64 n] w fun e w'=>e=.returned (.bool (decide (1≤n∧n≤100)))∧w=w':=by
 by_cases h1:1≤n
 ·by_cases h2:n≤100
  ·have hv:decide (1≤n∧n≤100)=true:=by simp [h1,h2]
   rw [hv]
   go_enter Tryz.func170,Tryz.ntmps170
   go_wp2
   go_ret
   exact⟨AE (by simp),rfl⟩
  ·have hv:decide (1≤n∧n≤100)=false:=by simp [h2]
   rw [hv]
   go_enter Tryz.func170,Tryz.ntmps170
   go_wp2
   go_ret
   exact⟨AE (by simp),rfl⟩
 ·have hv:decide (1≤n∧n≤100)=false:=by simp [h1]
  rw [hv]
  go_enter Tryz.func170,Tryz.ntmps170
  go_wp2
  go_ret
  exact⟨AE (by simp),rfl⟩
end
section
open Go.ChangeShapes Go.WideShapes Go.ChangeAt Go.RowKit
def dv(c:UInt8):Nat:=if 48≤c.toNat∧c.toNat≤57 then c.toNat - 48 else if 97≤c.toNat∧c.toNat≤102 then c.toNat - 97+10 else 16
def nb(b:Nat):Nat→List UInt8→Option Nat
 | n,[]=>some n
 | n,c :: r=>if dv c<b then nb b ((b*n+dv c)%4294967296) r else none
def cntQ(l:List UInt8):Option Nat:=
 match nb 10 0 (l.drop 1) with
 | some n=>if (1≤n∧n≤100)∧cnt n=l then some n else none
 | none=>none
end
section
open Go.ChangeShapes Go.WideShapes Go.ChangeAt Go.RowKit
def numV:Option Nat→Value
 | some n=>.tuple #[.int .u32 n,.bool true]
 | none=>.tuple #[.int .u32 0,.bool false]
def tagV:Option Nat→Value
 | some n=>.tuple #[.int .u32 n,.int .i64 0]
 | none=>.tuple #[.int .u32 0,.int .i64 2]
def cntV:Option Nat→Value
 | some n=>.tuple #[.int .i64 n,.bool true]
 | none=>.tuple #[.int .i64 0,.bool false]
def readV:Option (Nat×Nat)→Value
 | some (t,n)=>.tuple #[.int .u32 t,.int .i64 n,.int .i64 0]
 | none=>.tuple #[.int .u32 0,.int .i64 0,.int .i64 2]
end
section
open Go.ChangeShapes Go.WideShapes Go.ChangeAt Go.RowKit
theorem SW(W:World)(a:Addr)(n:Int)(cap:Nat)(h0:0≤n)(h1:n≤255)(h:W.cell? a=some (.int .u8 n)):
  (convert 209 9 (.slice (some a) 1 cap)).run Tryz.prog W=.ok (.string (mk [n.toNat.toUInt8])) W:=by
 have:=run_convert_bytes_back (P:=Tryz.prog) W 209 9 5 a cap [n.toNat.toUInt8] Tryz.underlying209 Tryz.underlying5 Tryz.underlying9 (by
  intro j hj
  obtain rfl:j=0:=by simp at hj;omega
  have e:((n.toNat.toUInt8).toNat:Int)=n:=by rw [Lib.toUInt8_toNat (by omega)];omega
  simp only [Addr.add,if_true,List.getElem_cons_zero]
  rw [e];exact h)
 exact this
theorem TH(m:Nat)(h:m%16<10):mk [(48+(m:Int)%16).toNat.toUInt8]=mk [hx (m%16)]:=by
 have:(48+(m:Int)%16).toNat=48+m%16:=by omega
 rw [this,hx,if_pos h]
theorem TI(m:Nat)(h:¬ m%16<10):mk [(87+(m:Int)%16).toNat.toUInt8]=mk [hx (m%16)]:=by
 have:(87+(m:Int)%16).toNat=87+m%16:=by omega
 rw [this,hx,if_neg h]
theorem SL(m:Nat):mk [(48+(m:Int)%10).toNat.toUInt8]=mk [dig m]:=by
 have:(48+(m:Int)%10).toNat=48+m%10:=by omega
 rw [this,dig]
theorem L3(n:Nat)(w:World)(hn:n<4294967296):
  Calls Tryz.prog 161 #[.int .u32 n] w fun e w'=>e=.returned (.string (mk (Ft 8 n)))∧Q w w':=by
 go_enter Tryz.func161,Tryz.ntmps161
 go_wp2_with fail
 go_loopw [0,3,4] (fun N S I wr=>∃ (k i m:Nat) (t:ByteArray),k+i=8∧m<4294967296∧N=.int .u32 m∧S=.string t∧I=.int .i64 i∧t.size≤8∧Hid (LeftH n k m t)∧Q w wr) (fun _ _ I _=>8 - (intOf I).toNat)
 case atStart=>exact⟨8,0,n,⟨#[]⟩,rfl,hn,rfl,rfl,rfl,by decide,AC ⟨hn,rfl,by simp [bl]⟩,Q.refl _⟩
 case round=>
  obtain⟨k,i,m,t,hk,hm,rfl,rfl,rfl,ht,HL,q⟩:=hrel
  cases k with
  | zero=>
    obtain⟨-,h8,h9⟩:=HL.out.last
    have HV:=AC h9
    have hlt:¬ ((i:Int)<8):=by omega
    clear h9
    go_wp2
    go_ret
    exact⟨Cf HV.out,q⟩
  | succ k=>
    have hlt:((i:Int)<8):=by omega
    have HS:=AC HL.out.step
    have hs7:t.size<8:=by have:=HL.out.2.1;omega
    by_cases h10:m%16<10
    ·have h2:=fun W=>SW W ⟨wr.heap.size,0,none⟩ (48+(m:Int)%16) 1 (by omega) (by omega)
     rw [TH m h10] at h2
     obtain⟨d,hd⟩:∃ d,d=mk [hx (m%16)]:=⟨_,rfl⟩
     rw [← hd] at h2 HS
     have hd1:d.size=1:=by rw [hd];rfl
     have hsz2:(d++t).size≤8:=by rw [ByteArray.size_append];omega
     have hc:((m:Int)%16<10):=by omega
     clear hd h10
     go_wp2
     go_roundw
     case rel=>exact⟨k,i+1,m/16,_,by omega,Nat.lt_of_le_of_lt (Nat.div_le_self m 16) hm,by go_num,rfl,by go_num,hsz2,HS,q.alloc _⟩
     case measure=>simp [intOf];omega
    ·have h2:=fun W=>SW W ⟨wr.heap.size,0,none⟩ (87+(m:Int)%16) 1 (by omega) (by omega)
     rw [TI m h10] at h2
     obtain⟨d,hd⟩:∃ d,d=mk [hx (m%16)]:=⟨_,rfl⟩
     rw [← hd] at h2 HS
     have hd1:d.size=1:=by rw [hd];rfl
     have hsz2:(d++t).size≤8:=by rw [ByteArray.size_append];omega
     have hc:¬ ((m:Int)%16<10):=by omega
     clear hd h10
     go_wp2
     go_roundw
     case rel=>exact⟨k,i+1,m/16,_,by omega,Nat.lt_of_le_of_lt (Nat.div_le_self m 16) hm,by go_num,rfl,by go_num,hsz2,HS,q.alloc _⟩
     case measure=>simp [intOf];omega
theorem KX(n:Nat)(w:World)(h1:1≤n)(hn:n≤100):
  Calls Tryz.prog 162 #[.int .i64 n] w fun e w'=>e=.returned (.string (mk (cnt n)))∧Q w w':=by
 have HC:Hid (∀ t,t=mk (Jr n)→(⟨#[45]⟩:ByteArray)++t=mk (cnt n)):=AC (by rintro t rfl;rw [cnt,show(⟨#[45]⟩:ByteArray)=mk [45] by rfl,Ck];rfl)
 go_enter Tryz.func162,Tryz.ntmps162
 go_wp2_with fail
 go_loopw [0,3] (fun N S wr=>∃ (m:Nat) (t:ByteArray),m≤100∧N=.int .i64 m∧S=.string t∧t.size≤13∧Hid (Left n m t)∧Q w wr) (fun N _ _=>(intOf N).toNat)
 case atStart=>exact⟨n,⟨#[]⟩,hn,rfl,rfl,by decide,AC (by rw [Left,NY (by omega)];simp [bl]),Q.refl _⟩
 case round=>
  obtain⟨m,t,hm,rfl,rfl,ht,HL,q⟩:=hrel
  by_cases h0:m=0
  ·subst h0
   have HV:=AC (HC.out _ HL.out.last)
   go_wp2
   go_ret
   exact⟨Cf HV.out,q⟩
  ·have HS:=AC (HL.out.step h0)
   have h2:=fun W=>SW W ⟨wr.heap.size,0,none⟩ (48+(m:Int)%10) 1 (by omega) (by omega)
   rw [SL] at h2
   obtain⟨d,hd⟩:∃ d,d=mk [dig m]:=⟨_,rfl⟩
   rw [← hd] at h2 HS
   have hd1:d.size=1:=by rw [hd];rfl
   have HZ:=AC (HS.out.size hn)
   clear hd
   have hp:0<m:=by omega
   clear h0
   go_wp2
   go_roundw
   case rel=>exact⟨m/10,_,by omega,by go_num,rfl,HZ.out,HS,q.alloc _⟩
   case measure=>simp [intOf];omega
end
section
open Go.ChangeShapes Go.WideShapes Go.ChangeAt Go.RowKit
def rreadV:Option (Nat×Nat)→Value
 | some (t,n)=>.tuple #[.int .u32 t,.int .i64 n,.bool true]
 | none=>.tuple #[.int .u32 0,.int .i64 0,.bool false]
end
section
open Go.ChangeShapes Go.WideShapes Go.ChangeAt Go.RowKit
def Nums(w:World)(B:Nat)(v:Value)(l:List Nat):Prop:=
 ∃ A c,v=.slice A l.length c∧l.length≤c∧(A=none→c=0)∧∀ k (h:k<l.length),∃ a:Addr,A=some a∧a.block<B∧l[k]<4294967296∧w.cell? (a.add k)=some (.int .u32 (l[k]:Nat))
theorem Nums.keep{w w':World}{B:Nat}{v:Value}{l:List Nat}(h:Nums w B v l)(k:∀ p:Addr,p.block<B→w'.cell? p=w.cell? p):Nums w' B v l:=by
 obtain⟨A,c,e,e0,ez,f⟩:=h
 refine⟨A,c,e,e0,ez,fun i hi=>?_⟩
 obtain⟨a,e1,e2,e3,e4⟩:=f i hi
 exact⟨a,e1,e2,e3,(k _ (by rw [AG];exact e2)).trans e4⟩
theorem Nums.below{w w':World}{B:Nat}{v:Value}{l:List Nat}(h:Nums w B v l)(k:Below B w w'):Nums w' B v l:=h.keep fun _ hp=>k.cell hp
theorem Nums.more{w:World}{B B':Nat}{v:Value}{l:List Nat}(h:Nums w B v l)(k:B≤B'):Nums w B' v l:=by
 obtain⟨A,c,e,e0,ez,f⟩:=h
 refine⟨A,c,e,e0,ez,fun i hi=>?_⟩
 obtain⟨a,e1,e2,e3⟩:=f i hi
 exact⟨a,e1,by omega,e3⟩
theorem Nums.on{w w':World}{v:Value}{l:List Nat}(h:Nums w w.heap.size v l)(k:Q w w'):Nums w' w'.heap.size v l:=(h.below k).more k.size
theorem Nums.nil(w:World)(B:Nat):Nums w B (.slice none 0 0) []:=⟨none,0,rfl,Nat.le_refl _,fun _=>rfl,fun k h=>absurd h (by simp)⟩
theorem Rl:(Tryz.prog.info? 5).map (fun i=>(i.zero,i.size,i.bytes))=some (some (.int .u8 0),1,1):=by kernel_rfl
def Own(base:Nat)(w:World)(v:Value)(l:List UInt8):Prop:=w.ownsRow base 5 1 v l.length (Lib.byteCells l)
theorem Own.nil(base:Nat)(w:World):Own base w (.slice none 0 0) []:=World.ownsRow_nil w _ _ _
theorem QS{base:Nat}{w:World}{v:Value}{l:List UInt8}(h:Own base w v l)(h0:0<l.length):(convert 209 9 v).run Tryz.prog w=.ok (.string (mk l)) w:=by
 rcases h.2 with⟨-,h1⟩ | ⟨g,cap,cur,rfl,-,-,-,-,-,-⟩
 ·omega
 ·exact run_convert_bytes_back (P:=Tryz.prog) w 209 9 5 ⟨g,0,none⟩ cap l Tryz.underlying209 Tryz.underlying5 Tryz.underlying9 (fun j hj=>World.ownsRow.cells (g:=g) h rfl j _ (by simp [Lib.byteCells,hj]))
theorem Dm(t:Nat):(oc4 t).length=4:=rfl
theorem Bj(l:List Nat):(l.flatMap oc4).length=4*l.length:=by
 induction l with
 | nil=>rfl
 | cons s r ih=>rw [List.flatMap_cons,List.length_append,Dm,List.length_cons,ih];omega
theorem Sr(l:List Nat)(j:Nat)(h:j<l.length):(l.take j).flatMap oc4++oc4 l[j]=(l.take (j+1)).flatMap oc4:=by
 rw [List.take_succ_eq_append_getElem h,List.flatMap_append];simp
def news(m:Nat):List Value:=[.int .u8 ((m:Int)/16777216),.int .u8 ((m:Int)/65536%256),.int .u8 ((m:Int)/256%256),.int .u8 ((m:Int)%256)]
theorem PW{m:Nat}(h:m<4294967296):news m=Lib.byteCells (oc4 m):=by
 simp only [news,oc4,Lib.byteCells,List.map_cons,List.map_nil]
 rw [Lib.toUInt8_toNat (by omega),Lib.toUInt8_toNat (by omega),Lib.toUInt8_toNat (by omega),Lib.toUInt8_toNat (by omega)]
 rfl
theorem I8(a b:List UInt8):Lib.byteCells (a++b)=Lib.byteCells a++Lib.byteCells b:=by simp [Lib.byteCells]
theorem LQ(w:World)(l:List Value)(h:l.length=4)(t:TypeId):∀ j u,l[j]?=some u→(w.alloc (.cells l.toArray t)).cell? ((⟨w.heap.size,0,none⟩:Addr).add j)=some u:=by
 intro j u hj
 obtain⟨hj2,rfl⟩:=List.getElem?_eq_some_iff.1 hj
 obtain⟨x0,x1,x2,x3,rfl⟩:∃ a b c d,l=[a,b,c,d]:=by
  match l,h with
  | [a,b,c,d],_=>exact⟨a,b,c,d,rfl⟩
 match j,hj2 with
 | 0,_=>simp [Addr.add]
 | 1,_=>simp [Addr.add]
 | 2,_=>simp [Addr.add]
 | 3,_=>simp [Addr.add]
theorem Ml{base:Nat}{w wr w1:World}{v v':Value}{L:List UInt8}{m:Nat}(hm:m<4294967296)(hb:base≤w.heap.size)
  (hown:Own base wr v L) (hbel:Below base w wr) {o:Obj}
  (h1:w1.ownsRow base 5 1 v' (L.length+4) (Lib.byteCells L++news m)) (h2:(wr.alloc o).grownBy w1 v.ownBlock) :
  Own base w1 v' (L++oc4 m)∧Below base w w1:=by
 have hs:base≤wr.heap.size:=Nat.le_trans hb hbel.size
 refine⟨?_,(hbel.alloc hs o).grown h2 (by simp;omega) (fun k hk=>(World.ownsRow.lt hown k hk).1)⟩
 unfold Own
 rw [I8,← PW hm,List.length_append,Dm]
 exact h1
theorem Pb(l:List Nat)(v:Value)(w:World)(h1:1≤l.length)(h2:l.length≤100)(ht:Nums w w.heap.size v l):
  Calls Tryz.prog 153 #[v] w fun e w'=>e=.returned (.tuple #[.string (mk (DA l)),.int .i64 0])∧Q w w':=by
 obtain⟨A,c,rfl,-,-,hcells⟩:=ht
 have HC:=AC hcells
 clear hcells
 have M:=AC fun w=>Ku l.length w
 have hm2:decide (1≤(l.length:Int)∧(l.length:Int)≤100)=true:=by simp;omega
 rw [hm2] at M
 clear hm2
 obtain⟨i0,hi,hz0,hz1,hz2⟩:=info_parts Rl
 go_enter Tryz.func153,Tryz.ntmps153
 go_wp2_with fail
 refine(M.out _).mono ?_
 rintro e w1 ⟨rfl,rfl⟩
 go_wp2_with fail
 go_loopw [4,13] (fun v' i wr=>∃ j:Nat,j≤l.length∧i=.int .i64 j∧Own w.heap.size wr v' ((l.take j).flatMap oc4)∧Below w.heap.size w wr) (fun _ i _=>l.length - (intOf i).toNat)
 case atStart=>exact⟨0,Nat.zero_le _,rfl,Own.nil _ _,Below.refl _ _⟩
 case round=>
  obtain⟨j,hj,rfl,hown,hbel⟩:=hrel
  by_cases hlt:j<l.length
  ·obtain⟨a,rfl,ha,hm,hcell⟩:=HC.out j hlt
   have hcell':=(hbel.cell (p:=a.add j) (by rw [AG];exact ha)).trans hcell
   clear hcell
   obtain⟨m,hmj⟩:∃ m,m=l[j]:=⟨_,rfl⟩
   rw [← hmj] at hcell' hm
   have HM:Hid ((l.take j).flatMap oc4++oc4 m=(l.take (j+1)).flatMap oc4):=AC (by rw [hmj];exact Sr l j hlt)
   have hlen:((l.take j).flatMap oc4).length≤400:=by rw [Bj,List.length_take];omega
   have hs:w.heap.size≤wr.heap.size:=hbel.size
   clear hmj
   go_wp2_with (first | (at_builtin;refine wpList_append_own _ rfl _ _ 209 rfl w.heap.size 5 i0 (.int .u8 0) 1 1 Tryz.underlying209 hi hz0 hz1 hz2 rfl (by decide) _ _ _ rfl (World.ownsRow.alloc hown _) ⟨wr.heap.size,0,none⟩ 4 4 (news m) rfl rfl (LQ _ (news m) rfl _) (by intro u hu;simp [news] at hu;rcases hu with rfl | rfl | rfl | rfl <;> rfl) (by unfold maxLen;omega) (by omega) (by simp;omega) ?_;intro v1 w1 h1 h2 _;have R:=Ml hm (Nat.le_refl _) hown hbel h1 h2;rw [HM.out] at R;clear h1 h2))
   go_roundw
   case rel=>exact⟨j+1,by omega,by go_num,R.1,R.2⟩
   case measure=>simp [intOf];omega
  ·obtain rfl:j=l.length:=by omega
   rw [List.take_length] at hown
   have hz:0<(l.flatMap oc4).length:=by rw [Bj];omega
   have hc:=QS hown hz
   have hsz:(mk (l.flatMap oc4)).size≤5000:=by rw [BW,Bj];omega
   have O:=AC fun w=>JQ (mk (l.flatMap oc4)) w hsz
   rw [FK] at O
   have T:=AC fun w=>Od (crc (l.flatMap oc4)) w (Hz _)
   have C:=AC fun w=>Gh l.length w h1 h2
   have HV:Hid (mk (Ft 8 (crc (l.flatMap oc4)))++mk (cnt l.length)=mk (DA l)):=AC (Ck _ _)
   have z1:(mk (Ft 8 (crc (l.flatMap oc4)))).size=8:=by rw [BW,Ex]
   have z2:(mk (cnt l.length)).size≤14:=by rw [BW,cnt];have:=EX (n:=l.length) (by omega);simp;omega
   obtain⟨x,hx⟩:∃ x,x=mk (Ft 8 (crc (l.flatMap oc4))):=⟨_,rfl⟩
   obtain⟨y,hy⟩:∃ y,y=mk (cnt l.length):=⟨_,rfl⟩
   rw [← hx] at T HV z1
   rw [← hy] at C HV z2
   clear hx hy hz
   go_wp2_with fail
   refine(O.out _).mono ?_
   rintro e w2 ⟨rfl,rfl⟩
   go_wp2_with fail
   refine(T.out _).mono ?_
   rintro e w3 ⟨rfl,q3⟩
   go_wp2_with fail
   refine(C.out _).mono ?_
   rintro e w4 ⟨rfl,q4⟩
   go_wp2
   go_ret2
   exact⟨by rw [← HV.out];rfl,(Q.trans hbel q3).trans q4⟩
end
section
open Go.ChangeShapes Go.WideShapes Go.ChangeAt Go.RowKit
theorem Tk{r x:Nat}(h:r<4294967296)(hx:x<256):bits .xor .u32 (r:Int) (x:Int)=((r ^^^ x:Nat):Int):=u32_xor_nat r x h (by omega)
theorem xorR{r:Nat}(h:r<4294967296):bits .xor .u32 ((r:Int)/2) 2197175160=((r/2 ^^^ Sj:Nat):Int):=Tx h
theorem L4(c x:Nat)(w:World)(hc:c<4294967296)(hx:x<256):
  Calls Tryz.prog 64 #[.int .u32 c,.int .u8 x] w fun e w'=>e=.returned (.int .u32 (stp c x:Nat))∧w=w':=by
 have h0:=Tk hc hx
 have hl0:c ^^^ x<4294967296:=JV hc (by omega)
 go_enter Tryz.func64,Tryz.ntmps64
 go_wp2_with fail
 go_loop [0,5] (fun R I=>∃ i r:Nat,i≤8∧r<4294967296∧I=.int .i64 i∧R=.int .u32 r∧Hid (stp c x=t1n (8 - i) r)) (fun _ I=>8 - (intOf I).toNat)
 case atStart=>exact⟨0,c ^^^ x,by omega,hl0,rfl,by go_num,AC rfl⟩
 case round=>
  obtain⟨i,r,hi,hr,rfl,rfl,HM⟩:=hrel
  by_cases hlt:i<8
  ·have HM2:Hid (stp c x=t1n (8 - (i+1)) (t1 r)):=AC (by rw [HM.out,show 8 - i=8 - (i+1)+1 by omega,t1n])
   have hl:=FR hr
   rcases Nat.mod_two_eq_zero_or_one r with h | h
   ·rw [IP h] at HM2 hl
    have hm:((r:Int)%2==1)=false:=by
     have:¬ (r:Int)%2=1:=by omega
     simpa using this
    go_wp2
    go_round
    case rel=>exact⟨i+1,r/2,by omega,hl,by go_num,by go_num,HM2⟩
    case measure=>simp [intOf];omega
   ·rw [Qh h] at HM2 hl
    have hm:((r:Int)%2==1)=true:=by
     have:(r:Int)%2=1:=by omega
     simpa using this
    have hb:=xorR hr
    go_wp2
    go_round
    case rel=>exact⟨i+1,_,by omega,hl,by go_num,by go_num,HM2⟩
    case measure=>simp [intOf];omega
  ·rw [show 8 - i=0 by omega,t1n] at HM
   go_wp2
   go_ret
   exact⟨by rw [HM.out];rfl,rfl⟩
theorem IW(s:ByteArray)(w:World)(hs:s.size≤5000):
  Calls Tryz.prog 25 #[.string s] w fun e w'=>e=.returned (.int .u32 (crc (bl s):Nat))∧w=w':=by
 go_enter Tryz.func25,Tryz.ntmps25
 go_wp2_with fail
 go_loop [3,4] (fun R I=>∃ i r:Nat,i≤s.size∧r<4294967296∧I=.int .i64 i∧R=.int .u32 r∧Hid (reg (4294967295) (bl s)=reg r ((bl s).drop i))) (fun _ I=>s.size - (intOf I).toNat)
 case atStart=>exact⟨0,4294967295,by omega,by omega,rfl,by go_num,AC (by rw [List.drop_zero])⟩
 case round=>
  obtain⟨i,r,hi,hr,rfl,rfl,HM⟩:=hrel
  by_cases hlt:i<s.size
  ·rw [Jo s hlt,JG] at HM
   have hx:=UInt8.toNat_lt s[i]
   have C:=AC (fun w=>L4 r s[i].toNat w hr hx)
   have hr2:=Sv hr hx
   go_wp2_with fail
   refine(C.out _).mono ?_
   rintro e w1 ⟨rfl,rfl⟩
   go_wp2
   go_round
   case rel=>exact⟨i+1,_,by omega,hr2,by go_num,by go_num,HM⟩
   case measure=>simp [intOf];omega
  ·obtain rfl:i=s.size:=by omega
   rw [Jn,MJ] at HM
   have he:Hid ((4294967295:Int) - (r:Int)=((crc (bl s):Nat):Int)):=AC (by rw [crc,HM.out];omega)
   go_wp2
   go_ret
   exact⟨by rw [← he.out];rfl,rfl⟩
end
section
open Go.ChangeShapes Go.WideShapes Go.ChangeAt Go.RowKit
theorem Ts(W:World)(b m cap:Nat)(hm:m<4294967296)(h0:W.cell? ⟨b,0,none⟩=some (.int .u8 ((m:Int)/16777216)))(h1:W.cell? ⟨b,1,none⟩=some (.int .u8 ((m:Int)/65536%256)))
  (h2:W.cell? ⟨b,2,none⟩=some (.int .u8 ((m:Int)/256%256))) (h3:W.cell? ⟨b,3,none⟩=some (.int .u8 ((m:Int)%256))) :
  (convert 209 9 (.slice (some ⟨b,0,none⟩) 4 cap)).run Tryz.prog W=.ok (.string (mk (oc4 m))) W:=by
 have:=run_convert_bytes_back (P:=Tryz.prog) W 209 9 5 ⟨b,0,none⟩ cap (oc4 m) Tryz.underlying209 Tryz.underlying5 Tryz.underlying9 (by
  intro j hj
  have e0:(((m/16777216).toUInt8).toNat:Int)=(m:Int)/16777216:=by rw [Lib.toUInt8_toNat (by omega)];omega
  have e1:(((m/65536%256).toUInt8).toNat:Int)=(m:Int)/65536%256:=by rw [Lib.toUInt8_toNat (by omega)];omega
  have e2:(((m/256%256).toUInt8).toNat:Int)=(m:Int)/256%256:=by rw [Lib.toUInt8_toNat (by omega)];omega
  have e3:(((m%256).toUInt8).toNat:Int)=(m:Int)%256:=by rw [Lib.toUInt8_toNat (by omega)];omega
  match j,hj with
  | 0,_=>show W.cell? ⟨b,0,none⟩=some (.int .u8 (((m/16777216).toUInt8).toNat:Int));rw [e0];exact h0
  | 1,_=>show W.cell? ⟨b,1,none⟩=some (.int .u8 (((m/65536%256).toUInt8).toNat:Int));rw [e1];exact h1
  | 2,_=>show W.cell? ⟨b,2,none⟩=some (.int .u8 (((m/256%256).toUInt8).toNat:Int));rw [e2];exact h2
  | 3,_=>show W.cell? ⟨b,3,none⟩=some (.int .u8 (((m%256).toUInt8).toNat:Int));rw [e3];exact h3
  | k+4,h=>exact absurd h (by rw [Dm];omega))
 exact this
theorem KP(l:List Nat)(v:Value)(w:World)(h1:1≤l.length)(h2:l.length≤100)(ht:Nums w w.heap.size v l):
  Calls Tryz.prog 131 #[v] w fun e w'=>e=.returned (.string (mk (DA l)))∧Q w w':=by
 obtain⟨A,c,rfl,-,-,hcells⟩:=ht
 have HC:=AC hcells
 clear hcells
 go_enter Tryz.func131,Tryz.ntmps131
 go_wp2_with fail
 go_loopw [3,4] (fun S i wr=>∃ (j:Nat) (t:ByteArray),j≤l.length∧i=.int .i64 j∧S=.string t∧t.size≤400∧Hid (t=mk ((l.take j).flatMap oc4))∧Q w wr) (fun _ i _=>l.length - (intOf i).toNat)
 case atStart=>exact⟨0,⟨#[]⟩,Nat.zero_le _,rfl,rfl,by decide,AC rfl,Q.refl _⟩
 case round=>
  obtain⟨j,t,hj,rfl,rfl,ht,HT,q⟩:=hrel
  by_cases hlt:j<l.length
  ·obtain⟨a,rfl,ha,hm,hcell⟩:=HC.out j hlt
   have hcell':=(q.cell (p:=a.add j) (by rw [AG];exact ha)).trans hcell
   clear hcell
   obtain⟨m,hmj⟩:∃ m,m=l[j]:=⟨_,rfl⟩
   rw [← hmj] at hcell' hm
   have HM:Hid (t++mk (oc4 m)=mk ((l.take (j+1)).flatMap oc4)):=AC (by rw [HT.out,Ck,hmj,Sr l j hlt])
   have h4:=fun W=>Ts W wr.heap.size m 4 hm
   obtain⟨d,hd⟩:∃ d,d=mk (oc4 m):=⟨_,rfl⟩
   rw [← hd] at h4 HM
   have hd1:d.size=4:=by rw [hd];rfl
   have HZ:Hid ((t++d).size≤400):=AC (by rw [HM.out,BW,Bj,List.length_take];omega)
   clear hd hmj
   go_wp2
   go_roundw
   case rel=>exact⟨j+1,_,by omega,by go_num,rfl,HZ.out,HM,q.alloc _⟩
   case measure=>simp [intOf];omega
  ·obtain rfl:j=l.length:=by omega
   rw [List.take_length] at HT
   have hsz:(mk (l.flatMap oc4)).size≤5000:=by rw [BW,Bj];omega
   have O:=AC fun w=>IW (mk (l.flatMap oc4)) w hsz
   rw [FK,← HT.out] at O
   have T:=AC fun w=>L3 (crc (l.flatMap oc4)) w (Hz _)
   have C:=AC fun w=>KX l.length w h1 h2
   have HV:Hid (mk (Ft 8 (crc (l.flatMap oc4)))++mk (cnt l.length)=mk (DA l)):=AC (Ck _ _)
   have z1:(mk (Ft 8 (crc (l.flatMap oc4)))).size=8:=by rw [BW,Ex]
   have z2:(mk (cnt l.length)).size≤14:=by rw [BW,cnt];have:=EX (n:=l.length) (by omega);simp;omega
   obtain⟨x,hx⟩:∃ x,x=mk (Ft 8 (crc (l.flatMap oc4))):=⟨_,rfl⟩
   obtain⟨y,hy⟩:∃ y,y=mk (cnt l.length):=⟨_,rfl⟩
   rw [← hx] at T HV z1
   rw [← hy] at C HV z2
   clear hx hy
   go_wp2_with fail
   refine(O.out _).mono ?_
   rintro e w2 ⟨rfl,rfl⟩
   go_wp2_with fail
   refine(T.out _).mono ?_
   rintro e w3 ⟨rfl,q3⟩
   go_wp2_with fail
   refine(C.out _).mono ?_
   rintro e w4 ⟨rfl,q4⟩
   go_wp2
   go_ret
   exact⟨Cf HV.out,(q.trans q3).trans q4⟩
end
end Go.Proofs.YtjjlbbfhmpbneaaGreat
