import Derived.Test.YtlkibcnhdjmfjaaGreatW00
import Derived.Calls
import Derived.Laws.CopyOwn
import Derived.Laws.Entries
import Derived.RowKit
import Derived.IntWalk
set_option linter.unusedSimpArgs false
set_option linter.unusedVariables false
set_option maxRecDepth 100000
set_option maxHeartbeats 4000000
namespace Go.VI.P
open Go
open Go.RowKit
theorem zbk{α:Type}{l:List α}{k:Nat}{x:α}(h:l[k]?=some x):l.take (k+1)=l.take k++[x]:=by
 rw [List.take_add_one,h];rfl
def confB(pw np:Int):Bool:=decide (16<=pw/\pw<=64/\pw % 4=0/\8<=np/\np<=64)
theorem zai{pw np:Int}(h:confB pw np=true):16<=pw/\pw<=64/\pw % 4=0/\8<=np/\np<=64:=by
 unfold confB at h;exact qar h
theorem conf_mk{pw np:Int}(h:16<=pw/\pw<=64/\pw % 4=0/\8<=np/\np<=64):confB pw np=true:=by
 unfold confB;exact qac h
def zfV(pw np:Int):Int:=if confB pw np then np / 4 else 0
def zdG(pw np:Int):Int:=if confB pw np then pw / 4 else 0
def zd9(pw n:Int):Int:=if n<=pw / 4 then 0 else if n<=pw then 1 else if n<=2*pw then 2 else if n<=3*pw then 3 else if n<=4*pw then 4 else -1
def zau(pw np n:Int):Int:=if confB pw np=true/\1<=n then zd9 pw n else -1
theorem zgg{pw np n:Int}(h:confB pw np=true)(h1:1<=n):zau pw np n=zd9 pw n:=by unfold zau;rw [if_pos ⟨h,h1⟩]
theorem zgh{pw np n:Int}(h:confB pw np=false\/n<1):zau pw np n = -1:=by
 unfold zau;rw [if_neg];rintro ⟨a,b⟩;rcases h with h | h
 · rw [a]at h;cases h
 · omega
def inPg(pw np p o:Int):Bool:=decide (0<=p/\p<np/\0<=o/\o<pw)
def za2(pw np p o:Int):Int:=if confB pw np then (if inPg pw np p o then 4096+p*pw+o else 0) else 0
def zlf(pw np p o:Int):Int:=if confB pw np then (if inPg pw np p o then 0 else 2) else 1
def inAr(pw np a:Int):Bool:=decide (4096<=a/\a<4096+np*pw)
def ofI(pw np a:Int):Int:=if confB pw np then (if inAr pw np a then (a-4096) / pw else 0) else 0
def ofK(pw np a:Int):Int:=if confB pw np then (if inAr pw np a then (a-4096) % pw else 0) else 0
def ofE(pw np a:Int):Int:=if confB pw np then (if inAr pw np a then 0 else 2) else 1
theorem zwp{pw np:Int}(h:confB pw np=true):zfV pw np=np / 4:=by unfold zfV;rw [if_pos h]
theorem zwq{pw np:Int}(h:confB pw np=false):zfV pw np=0:=by unfold zfV;rw [if_neg (by simp [h])]
theorem znd{pw np:Int}(h:confB pw np=true):zdG pw np=pw / 4:=by unfold zdG;rw [if_pos h]
theorem zvW{pw np:Int}(h:confB pw np=false):zdG pw np=0:=by unfold zdG;rw [if_neg (by simp [h])]
theorem zdy{pw np p o:Int}(h:confB pw np=true)(h1:inPg pw np p o=true):za2 pw np p o=4096+p*pw+o/\zlf pw np p o=0:=by
 unfold za2 zlf;rw [if_pos h,if_pos h,if_pos h1,if_pos h1];exact ⟨rfl,rfl⟩
theorem zof{pw np p o:Int}(h:confB pw np=true)(h1:inPg pw np p o=false):za2 pw np p o=0/\zlf pw np p o=2:=by
 unfold za2 zlf;rw [if_pos h,if_pos h,if_neg (by simp [h1]),if_neg (by simp [h1])];exact ⟨rfl,rfl⟩
theorem addr_no{pw np p o:Int}(h:confB pw np=false):za2 pw np p o=0/\zlf pw np p o=1:=by
 unfold za2 zlf;rw [if_neg (by simp [h]),if_neg (by simp [h])];exact ⟨rfl,rfl⟩
theorem zgO{pw np a:Int}(h:confB pw np=true)(h1:inAr pw np a=true):ofI pw np a=(a-4096) / pw/\ofK pw np a=(a-4096) % pw/\ofE pw np a=0:=by
 unfold ofI ofK ofE;rw [if_pos h,if_pos h,if_pos h,if_pos h1,if_pos h1,if_pos h1];exact ⟨rfl,rfl,rfl⟩
theorem ze5{pw np a:Int}(h:confB pw np=true)(h1:inAr pw np a=false):ofI pw np a=0/\ofK pw np a=0/\ofE pw np a=2:=by
 unfold ofI ofK ofE;rw [if_pos h,if_pos h,if_pos h,if_neg (by simp [h1]),if_neg (by simp [h1]),if_neg (by simp [h1])];exact ⟨rfl,rfl,rfl⟩
theorem zwj{pw np a:Int}(h:confB pw np=false):ofI pw np a=0/\ofK pw np a=0/\ofE pw np a=1:=by
 unfold ofI ofK ofE;rw [if_neg (by simp [h]),if_neg (by simp [h]),if_neg (by simp [h])];exact ⟨rfl,rfl,rfl⟩
theorem conf_prod{pw np:Int}(h:confB pw np=true):128<=np*pw/\np*pw<=4096:=by
 obtain ⟨h1,h2,_,h4,h5⟩:=zai h;exact ⟨Int.le_trans (show (128:Int)<=8*16 from by decide) (qbU h4 h1 (by decide) (by omega)),Int.le_trans (qbU h5 h2 (by omega) (by omega)) (by decide)⟩
theorem zaY{pw np p:Int}(h:confB pw np=true)(h0:0<=p)(h1:p<np):0<=p*pw/\p*pw+pw<=np*pw:=by
 obtain ⟨h2,_⟩:=zai h;have e:p*pw+pw=(p+1)*pw:=by rw [qa9,qbj]
 exact ⟨qa0 h0 (by omega),by rw [e];exact qaR (by omega) (by omega)⟩
theorem zh9{pw np p o:Int}(h:confB pw np=true)(h1:inPg pw np p o=true):inAr pw np (4096+p*pw+o)=true/\(4096+p*pw+o-4096) / pw=p/\(4096+p*pw+o-4096) % pw=o:=by
 unfold inPg at h1;obtain ⟨a,b,c,d⟩:=qar h1;obtain ⟨e,f⟩:=zaY h a b;have g:=zai h;have e1:4096+p*pw+o-4096=o+p*pw:=by omega
 refine ⟨qac (by omega),?_,?_⟩
 · rw [e1,qcq _ _ (by omega),qcB c d];omega
 · rw [e1,Int.add_mul_emod_self_right,Int.emod_eq_of_lt c d]
structure Pg where
 kind:Int
 space:Int
 used:Int
 pins:Int
 deriving DecidableEq
def Pg.zero:Pg:=⟨0,0,0,0⟩
theorem zav{ps:List Pg}{i:Nat}{x:Pg}(h:ps[i]?=some x):ps.getD i Pg.zero=x:=by rw [qay,h];rfl
def zf6(sp:Int):List Pg->Nat
 | []=>0
 | x::r=>if x.kind=3/\x.space=sp then zf6 sp r+1 else 0
def zbE:List Pg->Nat
 | []=>0
 | x::r=>(if x.kind=0 then 0 else 1)+zbE r
theorem zjV:∀ ps:List Pg,zbE ps<=ps.length
 | []=>qam _
 | x::r=>by have:=zjV r;unfold zbE;rw [qaM];split <;> omega
theorem zi5:∀ a b:List Pg,zbE (a++b)=zbE a+zbE b
 | [],b=>by simp [zbE]
 | x::r,b=>by rw [qaF,zbE,zbE,zi5 r b];omega
theorem zts{ps:List Pg}{k:Nat}{x:Pg}(h:ps[k]?=some x):zbE (ps.take (k+1))=zbE (ps.take k)+if x.kind=0 then 0 else 1:=by
 rw [zbk h,zi5];simp [zbE]
def zdT(out:List (Int×Int))(k:Int)(x:Pg):List (Int×Int) :=
 if x.kind=0 then (match out.getLast? with | some r=>if r.1+r.2=k then out.dropLast++[(r.1,r.2+1)] else out++[(k,1)] | none=>[(k,1)]) else out
def zb8(ps:List Pg):Nat->List (Int×Int)
 | 0=>[]
 | k+1=>match ps[k]? with | some x=>zdT (zb8 ps k) k x | none=>zb8 ps k
def zqB(ps:List Pg):List (Int×Int):=zb8 ps ps.length
def zaz(ps:List Pg)(k:Int):Int:=match (zqB ps).find? (fun r=>decide (1<=k)&&decide (k<=r.2)) with | some r=>r.1 | none=>-1
def put(ps:List Pg)(i k:Nat)(x:Pg):List Pg:=ps.take i++List.replicate k x++ps.drop (i+k)
theorem znm(ps:List Pg)(i:Nat)(x:Pg):put ps i 0 x=ps:=by simp [put]
theorem zeo{ps:List Pg}{i k:Nat}{x:Pg}(h:i+k<=ps.length):(put ps i k x).length=ps.length:=by
 unfold put;rw [qaB,qaB,qau,qbc,qaG];omega
theorem zdo{ps:List Pg}{i k:Nat}{x:Pg}(h:i+k<=ps.length){j:Nat}(hj:i+k<=j\/j<i):(put ps i k x)[j]?=ps[j]?:=by
 unfold put;rcases hj with hj | hj
 · rw [qbA (by rw [qaB,qau,qbc];omega),qa5]
   congr 1
   rw [qaB,qau,qbc];omega
 · rw [qaN,qbR (by rw [qau];omega),qa6,if_pos hj]
theorem zmq{ps:List Pg}{i k:Nat}{x:Pg}(h:i+k<=ps.length){j:Nat}(h1:i<=j)(h2:j<i+k):(put ps i k x)[j]?=some x:=by
 unfold put;rw [qaN,qbA (by rw [qau];omega),qbR (by rw [qau,qbc];omega),qcb,if_pos (by rw [qau];omega)]
theorem zv3{ps:List Pg}{i k:Nat}{x:Pg}(h:i+k<ps.length):(put ps i k x).set (i+k) x=put ps i (k+1) x:=by
 apply qbr
 intro j;rw [qaW];have hl:(put ps i k x).length=ps.length:=zeo (by omega)
 by_cases hj:i+k=j
 · rw [if_pos hj,if_pos (by omega),zmq (by omega) (by omega) (by omega)]
 · rw [if_neg hj];by_cases h1:i<=j/\j<i+k
   · rw [zmq (by omega) h1.1 h1.2,zmq (by omega) h1.1 (by omega)]
   · rw [zdo (by omega) (by omega),zdo (by omega) (by omega)]
def zct(ps:List Pg)(i k:Nat):Bool:=((ps.drop i).take k).all fun x=>decide (x.kind=0)
theorem zcM(ps:List Pg)(i:Nat):zct ps i 0=true:=by simp [zct]
theorem zce{ps:List Pg}{i k:Nat}{x:Pg}(h:ps[i+k]?=some x):zct ps i (k+1)=(zct ps i k&&decide (x.kind=0)):=by
 unfold zct;rw [zbk (l:=ps.drop i) (k:=k) (x:=x) (by rw [qa5];exact h),List.all_append]
 simp
theorem ztu{ps:List Pg}{i k m:Nat}(h:zct ps i k=true)(hm:m<=k):zct ps i m=true:=by
 unfold zct at *
 rw [qaO] at *
 intro x hx;refine h x ?_;rw [show (ps.drop i).take m=((ps.drop i).take k).take m from by rw [qbI,qbt hm]]at hx
 exact qcn hx
def zf5(ps:List Pg)(i k:Int)(x y:Pg):List Pg:=if 0<=i/\i<ps.length/\k<=ps.length-i then (if zct ps i.toNat k.toNat then (put ps i.toNat k.toNat y).set i.toNat x else []) else []
def zjp(ps:List Pg)(i k:Int):Int:=if 0<=i/\i<ps.length/\k<=ps.length-i then (if zct ps i.toNat k.toNat then 0 else 20) else 2
def zcl(ps:List Pg)(i sp:Int):List Pg:=if 0<=sp/\sp<=1 then zf5 ps i 1 ⟨1,sp,0,0⟩ Pg.zero else []
def zhX(ps:List Pg)(i sp:Int):Int:=if 0<=sp/\sp<=1 then zjp ps i 1 else 1
def zfe(pw np:Int)(ps:List Pg)(i sp n:Int):List Pg:=if 1<=zau pw np n/\0<=sp/\sp<=1 then zf5 ps i (zau pw np n) ⟨2,sp,n,0⟩ ⟨3,sp,0,0⟩ else []
def zkG(pw np:Int)(ps:List Pg)(i sp n:Int):Int:=if 1<=zau pw np n/\0<=sp/\sp<=1 then zjp ps i (zau pw np n) else 1
def zeO(n:Int):Bool:=decide (0<=n/\n<=2147483647)
def zbT(pw np:Int)(x:Pg)(r:List Pg)(due:Int):Option Int :=
 if ¬(x.kind=3↔0<due)\/x.space<0\/1<x.space\/zeO x.pins=false then none
 else if x.kind=0 then (if x=Pg.zero then some (max 0 (due-1)) else none)
 else if x.kind=1 then (if x.used<0\/pw<x.used then none else some (max 0 (due-1)))
 else if x.kind=2 then (if zau pw np x.used<1\/(zf6 x.space r:Int)<zau pw np x.used-1 then none else some (max 0 (zau pw np x.used-1)))
 else if x.kind=3 then (if x.used=0/\x.pins=0 then some (max 0 (due-1)) else none)
 else none
def zaG(pw np:Int):List Pg->Int->Bool
 | [],_=>true
 | x::r,due=>match zbT pw np x r due with | some d=>zaG pw np r d | none=>false
def zfk(ps:List Pg)(b:Int):Bool:=decide (b = -1\/(0<=b/\b<ps.length/\(ps.getD b.toNat Pg.zero).kind=1))
def zcI(pw np:Int)(nw:Nat)(ps:List Pg)(sp b:Int):Bool :=
 confB pw np&&decide ((nw:Int)=np*pw)&&decide ((ps.length:Int)=np)&&decide (0<=sp/\sp<=1)&&zfk ps b&&zaG pw np ps 0
theorem zq8{pw n:Int}(h:n<=pw / 4):zd9 pw n=0:=by unfold zd9;rw [if_pos h]
theorem ztm{pw n:Int}(hp:16<=pw)(h0:pw / 4<n)(h:4*pw<n):zd9 pw n = -1:=by
 unfold zd9;rw [if_neg (by omega),if_neg (by omega),if_neg (by omega),if_neg (by omega),if_neg (by omega)]
theorem zfB{out:List (Int×Int)}{k:Int}{x:Pg}(h:¬x.kind=0):zdT out k x=out:=by unfold zdT;rw [if_neg h]
theorem zel{k:Int}{x:Pg}(h:x.kind=0):zdT [] k x=[(k,1)]:=by unfold zdT;rw [if_pos h];rfl
theorem zdH{pre:List (Int×Int)}{r:Int×Int}{k:Int}{x:Pg}(h:x.kind=0)(he:r.1+r.2=k):zdT (pre++[r]) k x=pre++[(r.1,r.2+1)]:=by
 unfold zdT;rw [if_pos h];simp [he]
theorem zem{pre:List (Int×Int)}{r:Int×Int}{k:Int}{x:Pg}(h:x.kind=0)(he:¬r.1+r.2=k):zdT (pre++[r]) k x=pre++[r]++[(k,1)]:=by
 unfold zdT;rw [if_pos h];simp [he]
theorem zek{ps:List Pg}{k:Nat}{x:Pg}(h:ps[k]?=some x):zb8 ps (k+1)=zdT (zb8 ps k) k x:=by
 rw [zb8,h]
theorem zhZ(out:List (Int×Int)):out=[]\/∃ pre r,out=pre++[r]:=by
 rcases qcE out with h | ⟨pre,r,h⟩
 · exact Or.inl h
 · exact Or.inr ⟨pre,r,by rw [h,qcD]⟩
theorem zqA(ps:List Pg):∀ (k:Nat) (r:Int×Int),r∈zb8 ps k->0<=r.1/\1<=r.2/\r.1+r.2<=k
 | 0,r,h=>by simp [zb8]at h
 | k+1,r,h=>by
  have ih:=zqA ps k;cases hx:ps[k]? with
  | none=>
   rw [zb8,hx]at h;have:=ih r h;omega
  | some x=>
   rw [zek hx]at h;by_cases h0:x.kind=0
   · rcases zhZ (zb8 ps k) with e | ⟨pre,q,e⟩
     · rw [e,zel h0]at h;simp at h;subst h;simp
     · rw [e]at h ih;have hq:=ih q (by simp)
       by_cases he:q.1+q.2=k
       · rw [zdH h0 he]at h;rcases qas.1 h with h | h
         · have:=ih r (qa1 _ h);omega
         · simp at h;subst h;simp;omega
       · rw [zem h0 he]at h;rcases qas.1 h with h | h
         · have:=ih r h;omega
         · simp at h;subst h;simp
   · rw [zfB h0]at h;have:=ih r h;omega
theorem zng(ps:List Pg):∀ k:Nat,(zb8 ps k).length<=k
 | 0=>qam _
 | k+1=>by
  have ih:=zng ps k;cases hx:ps[k]? with
  | none=>rw [zb8,hx];exact Nat.le_succ_of_le ih
  | some x=>
   rw [zek hx];by_cases h0:x.kind=0
   · rcases zhZ (zb8 ps k) with e | ⟨pre,q,e⟩
     · rw [e,zel h0];simp
     · rw [e]at ih ⊢
       by_cases he:q.1+q.2=k
       · rw [zdH h0 he];simp at ih ⊢;omega
       · rw [zem h0 he];simp at ih ⊢;omega
   · rw [zfB h0];omega
def zbl(k:Int):List (Int×Int)->Int
 | []=>-1
 | r::t=>if 1<=k/\k<=r.2 then r.1 else zbl k t
theorem zkS(ps:List Pg)(k:Int):zaz ps k=zbl k (zqB ps):=by
 unfold zaz;generalize zqB ps=l
 induction l with
 | nil=>rfl
 | cons r t ih=>
  rw [List.find?_cons,zbl];by_cases h:1<=k/\k<=r.2
  · rw [if_pos h];simp [h]
  · rw [if_neg h];have:(decide (1<=k)&&decide (k<=r.2))=false:=by simp;omega
    rw [this];exact ih
theorem zpJ{k:Int}{l:List (Int×Int)}{i:Nat}{r:Int×Int}(h:l[i]?=some r):zbl k (l.drop i)=if 1<=k/\k<=r.2 then r.1 else zbl k (l.drop (i+1)):=by
 obtain ⟨hi,rfl⟩:=qak.1 h;rw [qaU hi,zbl]
theorem zn1{k:Int}{l:List (Int×Int)}{i:Nat}(h:l.length<=i):zbl k (l.drop i) = -1:=by
 rw [qbp h];rfl
theorem zvR{ps:List Pg}{i k:Int}{x y:Pg}(h:¬(0<=i/\i<ps.length/\k<=ps.length-i)):zf5 ps i k x y=[]/\zjp ps i k=2:=by
 unfold zf5 zjp;rw [if_neg h,if_neg h];exact ⟨rfl,rfl⟩
theorem zj7{ps:List Pg}{i k:Nat}{x y:Pg}(h:i<ps.length)(hk:i+k<=ps.length)(hf:zct ps i k=true):zf5 ps i k x y=(put ps i k y).set i x/\zjp ps i k=0:=by
 have hc:0<=(i:Int)/\(i:Int)<ps.length/\(k:Int)<=ps.length-i:=⟨by omega,by omega,by omega⟩
 unfold zf5 zjp;rw [if_pos hc,if_pos hc,qad,qad,if_pos hf,if_pos hf];exact ⟨rfl,rfl⟩
theorem zmK{ps:List Pg}{i k m:Nat}{x:Pg}(hx:ps[i+m]?=some x)(hm:m<k)(h:¬x.kind=0):zct ps i k=false:=by
 rw [<-qbs];intro hf;have:=ztu hf (show m+1<=k from hm)
 rw [zce hx]at this;simp at this;exact h this.2
structure Hp where
 pw:Int
 np:Int
 words:List Int
 pages:List Pg
 space:Int
 bump:Int
def Hp.zero:Hp:=⟨0,0,[],[],0,0⟩
def WB(xs:List Int):Prop:=∀ x∈xs,0<=x/\x<18446744073709551616
theorem WB.zeros(n:Nat):WB (List.replicate n 0):=by
 intro x hx;obtain ⟨_,rfl⟩:=List.mem_replicate.1 hx;omega
theorem WB.nil:WB []:=fun x h=>by cases h
def zl1(pw np:Int):Hp:=if confB pw np then ⟨pw,np,List.replicate (np*pw).toNat 0,List.replicate np.toNat Pg.zero,0,-1⟩ else Hp.zero
def newHE(pw np:Int):Int:=if confB pw np then 0 else 1
theorem znM{pw np:Int}(h:confB pw np=true):zl1 pw np=⟨pw,np,List.replicate (np*pw).toNat 0,List.replicate np.toNat Pg.zero,0,-1⟩/\newHE pw np=0:=by
 unfold zl1 newHE;rw [if_pos h,if_pos h];exact ⟨rfl,rfl⟩
def zh7(n:Int):Int:=2 ^ min n.toNat 64-1
def zh8(n:Int):Nat:=2 ^ min n.toNat 64-1
theorem zv7(k:Nat)(h:k<=64):(2:Nat) ^ k<=18446744073709551616:=by
 have:(2:Nat) ^ k<=2 ^ 64:=qb8 (by decide) h
 simpa using this
theorem zv6(k:Nat)(h:k<64):(2:Nat) ^ k<=9223372036854775808:=by
 have:(2:Nat) ^ k<=2 ^ 63:=qb8 (by decide) (by omega)
 simpa using this
theorem znn(k:Nat):1<=(2:Nat) ^ k:=Nat.one_le_two_pow
theorem zha(k:Nat):((2 ^ k:Nat):Int)=(2:Int) ^ k:=by rw [qck];rfl
theorem zvf(k:Nat)(h:k<64):(2:Int) ^ k<=9223372036854775808:=by
 have:=zv6 k h;rw [<-zha];omega
theorem zve(k:Nat):1<=(2:Int) ^ k:=by
 have:=znn k;rw [<-zha];omega
theorem ztd(n:Int):zh7 n=((zh8 n:Nat):Int):=by
 unfold zh7 zh8;have:=znn (min n.toNat 64)
 rw [Int.natCast_sub this];simp
theorem zuN(n:Int)(h:n<0):zh7 n=0:=by
 unfold zh7;have:n.toNat=0:=by omega
 simp [this]
theorem zwh(n:Int):zh8 n<18446744073709551616:=by
 unfold zh8;have:=zv7 (min n.toNat 64) (by omega);have:=znn (min n.toNat 64);omega
theorem shr_lt(x k:Nat)(hx:x<18446744073709551616):x >>> k<18446744073709551616:=by
 rw [qbW];exact Nat.lt_of_le_of_lt (Nat.div_le_self _ _) hx
theorem zj1(v:Nat)(n:Int):v &&& zh8 n=v % 2 ^ min n.toNat 64:=by
 unfold zh8;exact Nat.and_two_pow_sub_one_eq_mod v _
def fitL:Int->List Int->Bool
 | _,[]=>true
 | left,x::r=>if x<1\/left<x then false else fitL (left-x) r
theorem zvm{left x:Int}{ws:List Int}{k:Nat}(hx:ws[k]?=some x)(h:x<1\/left<x):fitL left (ws.drop k)=false:=by
 obtain ⟨hk,rfl⟩:=qak.1 hx;rw [qaU hk,fitL,if_pos h]
theorem zwy{left x:Int}{ws:List Int}{k:Nat}(hx:ws[k]?=some x)(h1:¬x<1)(h2:¬left<x):fitL left (ws.drop k)=fitL (left-x) (ws.drop (k+1)):=by
 obtain ⟨hk,rfl⟩:=qak.1 hx;rw [qaU hk,fitL,if_neg (by omega)]
theorem zwz{left:Int}{ws:List Int}{k:Nat}(hk:ws.length<=k):fitL left (ws.drop k)=true:=by
 rw [qbp hk,fitL]
theorem zvn{left x:Int}{r:List Int}(h:fitL left (x::r)=true):1<=x/\x<=left/\fitL (left-x) r=true:=by
 rw [fitL]at h;by_cases c:x<1\/left<x
 · rw [if_pos c]at h;cases h
 · rw [if_neg c]at h;exact ⟨by omega,by omega,h⟩
def sumW:List Int->Nat
 | []=>0
 | x::r=>x.toNat+sumW r
theorem zsC:∀ (ws:List Int) (left:Int),0<=left->fitL left ws=true->∀ x∈ws,1<=x/\x<=left
 | [],_,_,_,x,hx=>by cases hx
 | y::r,left,h,hf,x,hx=>by
  obtain ⟨h1,h2,h3⟩:=zvn hf;rcases qat.1 hx with rfl | hx
  · exact ⟨h1,h2⟩
  · have:=zsC r (left-y) (by omega) h3 x hx
    omega
def okF(fs:List (Int×Nat)):Bool:=fs.all fun f=>decide ((f.2:Int)<=zh7 f.1)
def zaA(k n m:Int):Bool:=decide (0<=k/\k<=3/\0<=n/\n<=255/\(k=1->n<=32/\m<2 ^ n.toNat)/\(¬k=1->m=0))
theorem zay{k n m:Int}(h:zaA k n m=true):0<=k/\k<=3/\0<=n/\n<=255/\(k=1->n<=32/\m<2 ^ n.toNat)/\(¬k=1->m=0):=by
 unfold zaA at h;exact qar h
theorem zgB{k n m:Int}(h:0<=k/\k<=3/\0<=n/\n<=255/\(k=1->n<=32/\m<2 ^ n.toNat)/\(¬k=1->m=0)):zaA k n m=true:=by
 unfold zaA;exact qac h
theorem zch{k n m:Int}(h:¬(0<=k/\k<=3/\0<=n/\n<=255/\(k=1->n<=32/\m<2 ^ n.toNat)/\(¬k=1->m=0))):zaA k n m=false:=by
 unfold zaA;exact qaj h
theorem zv8(n:Int)(h:n<=32):(2:Int) ^ n.toNat<=4294967296:=by
 have:(2:Nat) ^ n.toNat<=2 ^ 32:=qb8 (by decide) (by omega)
 rw [<-zha];omega
theorem zj3{k n m:Int}(h:zaA k n m=true):m<4294967296:=by
 obtain ⟨h1,h2,h3,h4,h5,h6⟩:=zay h;by_cases c:k=1
 · obtain ⟨h7,h8⟩:=h5 c;have:=zv8 n h7;omega
 · have:=h6 c;omega
def zdD(k n m:Int):Int:=1+4*k+16*n+65536*m
def encV(k n m:Int):Int:=if zaA k n m then zdD k n m else 0
def encE(k n m:Int):Int:=if zaA k n m then 0 else 1
theorem zqs{k n m:Int}(h:zaA k n m=true)(hm:0<=m):0<=zdD k n m/\zdD k n m<281474976710656:=by
 have:=zj3 h
 obtain ⟨h1,h2,h3,h4,h5,h6⟩:=zay h;unfold zdD;omega
def dK(x:Nat):Nat:=x / 4 % 4
def dN(x:Nat):Nat:=x / 16 % 4096
def dM(x:Nat):Nat:=x / 65536 % 4294967296
def okD(x:Nat):Bool:=decide (x % 4=1)&&decide (x<281474976710656)&&zaA (dK x) (dN x) (dM x)
def decK(x:Nat):Int:=if okD x then dK x else 0
def decN(x:Nat):Int:=if okD x then dN x else 0
def decM(x:Nat):Int:=if okD x then dM x else 0
theorem zmQ{x:Nat}(h:okD x=true):decK x=dK x/\decN x=dN x/\decM x=dM x:=by
 unfold decK decN decM;rw [if_pos h,if_pos h,if_pos h];exact ⟨rfl,rfl,rfl⟩
theorem zpQ{x:Nat}(h:okD x=false):decK x=0/\decN x=0/\decM x=0:=by
 unfold decK decN decM;rw [if_neg (by simp [h]),if_neg (by simp [h]),if_neg (by simp [h])];exact ⟨rfl,rfl,rfl⟩
theorem zcq{x:Nat}(h:okD x=true):x % 4=1/\x<281474976710656/\zaA (dK x) (dN x) (dM x)=true:=by
 unfold okD at h;simp only [qae,qaa]at h;exact ⟨h.1.1,h.1.2,h.2⟩
theorem zwZ{x:Nat}(h1:x % 4=1)(h2:x<281474976710656)(h3:zaA (dK x) (dN x) (dM x)=true):okD x=true:=by
 unfold okD;simp only [qae,qaa];exact ⟨⟨h1,h2⟩,h3⟩
theorem zuQ{x:Nat}(h:¬x % 4=1\/¬x<281474976710656\/zaA (dK x) (dN x) (dM x)=false):okD x=false:=by
 rw [<-qbs];intro c;obtain ⟨h1,h2,h3⟩:=zcq c
 rcases h with h | h | h
 · exact h h1
 · exact h h2
 · rw [h3]at h;cases h
theorem zwD{x:Nat}(h:okD x=true):zdD (dK x) (dN x) (dM x)=x:=by
 obtain ⟨h1,h2,h3⟩:=zcq h;obtain ⟨_,_,_,h4,_,_⟩:=zay h3;unfold zdD dK dN dM at *;omega
theorem zr7{k n m:Int}(h:zaA k n m=true)(hm:0<=m){x:Nat}(hx:zdD k n m=x):okD x=true/\(dK x:Int)=k/\(dN x:Int)=n/\(dM x:Int)=m:=by
 have hm2:=zj3 h;obtain ⟨h1,h2,h3,h4,h5,h6⟩:=zay h;have e1:(dK x:Int)=k:=by unfold zdD at hx;unfold dK;omega
 have e2:(dN x:Int)=n:=by unfold zdD at hx;unfold dN;omega
 have e3:(dM x:Int)=m:=by unfold zdD at hx;unfold dM;omega
 refine ⟨zwZ ?_ ?_ ?_,e1,e2,e3⟩
 · unfold zdD at hx;omega
 · unfold zdD at hx;omega
 · rw [e1,e2,e3];exact h
theorem zm4{x:Nat}:okD x=true↔zaA (dK x) (dN x) (dM x)=true/\zdD (dK x) (dN x) (dM x)=x :=
 ⟨fun h=>⟨(zcq h).2.2,zwD h⟩,fun h=>(zr7 h.1 (Int.natCast_nonneg _) h.2).1⟩
def fwdV(a:Int):Int:=if a<4294967296 then 4*a+2 else 0
def fwdE(a:Int):Int:=if a<4294967296 then 0 else 1
theorem zw5{a:Int}(h:a<4294967296):fwdV a=4*a+2/\fwdE a=0:=by
 unfold fwdV fwdE;rw [if_pos h,if_pos h];exact ⟨rfl,rfl⟩
def okT(x:Nat):Bool:=decide (x % 4=2)&&decide (x<17179869184)
def tgtV(x:Nat):Int:=if okT x then ((x / 4:Nat):Int) else 0
theorem zoZ{x:Nat}(h:okT x=true):x % 4=2/\x<17179869184:=by
 unfold okT at h;simp only [qae,qaa]at h;exact h
theorem okT_mk{x:Nat}(h1:x % 4=2)(h2:x<17179869184):okT x=true:=by
 unfold okT;simp only [qae,qaa];exact ⟨h1,h2⟩
theorem zwU{x:Nat}(h:okT x=true):tgtV x=((x / 4:Nat):Int):=by unfold tgtV;rw [if_pos h]
theorem tgt_no{x:Nat}(h:okT x=false):tgtV x=0:=by unfold tgtV;rw [if_neg (by simp [h])]
theorem apart(x:Nat):¬(okD x=true/\okT x=true):=by
 rintro ⟨h,k⟩;have:=(zcq h).1;have:=(zoZ k).1;omega
def zaO(k n m:Int):Int:=if zaA k n m then n+1 else 0
theorem zcm{k n m:Int}(h:zaA k n m=true):zaO k n m=n+1:=by unfold zaO;rw [if_pos h]
theorem zqz{k n m:Int}(h:zaA k n m=false):zaO k n m=0:=by unfold zaO;rw [if_neg (by simp [h])]
def ptrB(k n m i:Int):Bool:=zaA k n m&&decide (0<=i)&&decide (i<n)&&(decide (k=2) || (decide (k=1)&&m.toNat.testBit i.toNat))
def zcB(k n m:Int)(j:Nat):List Int:=((List.range j).map Int.ofNat).filter (fun i=>ptrB k n m i)
def zeN(k n m:Int):List Int:=if zaA k n m then zcB k n m n.toNat else []
theorem zkk(k n m:Int)(j:Nat):zcB k n m (j+1)=if ptrB k n m j then zcB k n m j++[(j:Int)] else zcB k n m j:=by
 unfold zcB;rw [List.range_succ,qbM,qcj];by_cases h:ptrB k n m j=true
 · rw [if_pos h];have:([j].map Int.ofNat).filter (fun i=>ptrB k n m i)=[(j:Int)]:=by simp [h]
   rw [this]
 · rw [if_neg h];have:([j].map Int.ofNat).filter (fun i=>ptrB k n m i)=[]:=by simp [h]
   rw [this,qaZ]
theorem zs6(k n m:Int)(j:Nat):(zcB k n m j).length<=j:=by
 unfold zcB;refine qaD (qbz _ _) ?_;simp
theorem zs5{k n m:Int}{j:Nat}{x:Int}(h:x∈zcB k n m j):ptrB k n m x=true:=(qbG.1 h).2
theorem zkj{k n m:Int}{x:Int}(h:x∈zeN k n m):ptrB k n m x=true:=by
 unfold zeN at h;by_cases c:zaA k n m=true
 · rw [if_pos c]at h;exact zs5 h
 · rw [if_neg c]at h;cases h
theorem zqF{k n m:Int}(h:zaA k n m=true):zeN k n m=zcB k n m n.toNat:=by unfold zeN;rw [if_pos h]
theorem zuB{k n m:Int}(h:zaA k n m=false):zeN k n m=[]:=by unfold zeN;rw [if_neg (by simp [h])]
def okA(len:Nat)(a:Int)(n:Nat):Bool:=decide (4096<=a/\a-4096+n<=len)
theorem znt(i:Nat):((4096+(i:Int))-4096).toNat=i:=by omega
def zkJ(len:Nat)(a:Int):Int:=if okA len a 1 then a-4096 else 0
def zkK(len:Nat)(a:Int):Int:=if okA len a 1 then 0 else 2
def zas(xs:List Int)(a:Int):Int:=if okA xs.length a 1 then xs.getD (a-4096).toNat 0 else 0
def zkF(xs:List Int)(a:Int):Int:=if okA xs.length a 1 then 0 else 2
def zki(xs:List Int)(a n:Int):List Int:=if n<0 then [] else if okA xs.length a n.toNat then (xs.drop (a-4096).toNat).take n.toNat else []
def znk(xs:List Int)(a n:Int):Int:=if n<0 then 1 else if okA xs.length a n.toNat then 0 else 2
def zaF(xs:List Int)(a:Int)(l:List Int):List Int:=if okA xs.length a l.length then splice xs (a-4096).toNat l else []
def zeS(xs:List Int)(a:Int)(l:List Int):Int:=if okA xs.length a l.length then 0 else 2
def zes(xs:List Int)(t f n:Int):List Int:=if n<0 then [] else if okA xs.length t n.toNat/\okA xs.length f n.toNat then splice xs (t-4096).toNat ((xs.drop (f-4096).toNat).take n.toNat) else []
def moveE(xs:List Int)(t f n:Int):Int:=if n<0 then 1 else if okA xs.length t n.toNat/\okA xs.length f n.toNat then 0 else 2
theorem nneg(n:Nat):¬((n:Int)<0):=by omega
theorem index_ok{len i:Nat}(h:okA len (4096+(i:Int)) 1=true):zkJ len (4096+(i:Int))=i/\zkK len (4096+(i:Int))=0:=by
 unfold zkJ zkK;rw [if_pos h,if_pos h];exact ⟨by omega,rfl⟩
theorem zss{xs:List Int}{i:Nat}{x:Int}(h:okA xs.length (4096+(i:Int)) 1=true)(hx:xs[i]?=some x):zas xs (4096+(i:Int))=x/\zkF xs (4096+(i:Int))=0:=by
 unfold zas zkF;rw [if_pos h,if_pos h,znt,qay,hx];exact ⟨rfl,rfl⟩
theorem zv1{xs:List Int}{a n:Int}(h:n<0):zki xs a n=[]/\znk xs a n=1:=by
 unfold zki znk;rw [if_pos h,if_pos h];exact ⟨rfl,rfl⟩
theorem read_ok{xs:List Int}{i n:Nat}(h:okA xs.length (4096+(i:Int)) n=true):zki xs (4096+(i:Int)) n=(xs.drop i).take n/\znk xs (4096+(i:Int)) n=0:=by
 unfold zki znk;rw [if_neg (nneg n),if_neg (nneg n),qad,if_pos h,if_pos h,znt];exact ⟨rfl,rfl⟩
theorem read_no{xs:List Int}{a:Int}{n:Nat}(h:okA xs.length a n=false):zki xs a n=[]/\znk xs a n=2:=by
 unfold zki znk;rw [if_neg (nneg n),if_neg (nneg n),qad,if_neg (by simp [h]),if_neg (by simp [h])];exact ⟨rfl,rfl⟩
theorem zr5{xs l:List Int}{i:Nat}(h:okA xs.length (4096+(i:Int)) l.length=true):zaF xs (4096+(i:Int)) l=splice xs i l/\zeS xs (4096+(i:Int)) l=0:=by
 unfold zaF zeS;rw [if_pos h,if_pos h,znt];exact ⟨rfl,rfl⟩
theorem zvO{xs l:List Int}{a:Int}(h:okA xs.length a l.length=false):zaF xs a l=[]/\zeS xs a l=2:=by
 unfold zaF zeS;rw [if_neg (by simp [h]),if_neg (by simp [h])];exact ⟨rfl,rfl⟩
theorem zcH{xs l:List Int}{i:Nat}(h:i+l.length<=xs.length):(splice xs i l).length=xs.length:=length_splice xs i l h
theorem zdj{xs l:List Int}{i j:Nat}(h:i+l.length<=xs.length)(h1:i<=j)(h2:j<i+l.length):(splice xs i l)[j]?=l[j-i]?:=by
 unfold splice;have e:(xs.take i).length=i:=by rw [qau];omega
 rw [qbA (by omega),e,qbR (by omega)]
theorem zfx{xs l:List Int}{i j:Nat}(h:i+l.length<=xs.length)(h1:j<i\/i+l.length<=j):(splice xs i l)[j]?=xs[j]?:=by
 unfold splice;have e:(xs.take i).length=i:=by rw [qau];omega
 rcases h1 with h1 | h1
 · rw [qbR (by omega),qa6,if_pos h1]
 · rw [qbA (by omega),e,qbA (by omega),qa5]
   congr 1;omega
structure Hd where
 k:Int
 n:Int
 m:Int
 deriving DecidableEq
def Hd.zero:Hd:=⟨0,0,0⟩
def okH(h:Hp):Bool:=zcI h.pw h.np h.words.length h.pages h.space h.bump
def zb9(h:Hp)(a:Int):Pg:=h.pages.getD (ofI h.pw h.np a).toNat Pg.zero
def zaw(h:Hp)(a:Int):Nat:=(h.words.getD (a-4096).toNat 0).toNat
def hdOf(x:Nat):Hd:=⟨dK x,dN x,dM x⟩
def atB(h:Hp)(a:Int):Bool :=
 decide ((zb9 h a).kind=1\/(zb9 h a).kind=2)&&decide (ofK h.pw h.np a<(zb9 h a).used)&&okD (zaw h a) &&
 (if (zb9 h a).kind=1 then decide (ofK h.pw h.np a+(dN (zaw h a)+1)<=(zb9 h a).used) else decide (ofK h.pw h.np a=0/\(dN (zaw h a):Int)+1=(zb9 h a).used))
def atE(h:Hp)(a:Int):Int:=if okH h then (if ofE h.pw h.np a=0 then (if atB h a then 0 else 19) else 2) else 1
def atH(h:Hp)(a:Int):Hd:=if atE h a=0 then hdOf (zaw h a) else Hd.zero
def getE(h:Hp)(a:Int):Int:=if okH h then (if a=0 then 5 else if atE h a=0/\(atH h a).k=0 then 4 else atE h a) else 1
def getH(h:Hp)(a:Int):Hd:=if getE h a=0 then atH h a else Hd.zero
def zi8(h:Hp)(a i:Int):Int:=if getE h a=0 then (if i<0\/(getH h a).n<=i then 2 else zkF h.words (a+1+i)) else getE h a
def zw6(h:Hp)(a i:Int):Int:=if getE h a=0 then (if i<0\/(getH h a).n<=i then 0 else zas h.words (a+1+i)) else 0
def setE(h:Hp)(a i:Int):Int:=zi8 h a i
def setV(h:Hp)(a i v:Int):Hp:=if zi8 h a i=0 then { h with words:=zaF h.words (a+1+i) [v] } else Hp.zero
theorem zaq{h:Hp}(hp:okH h=true):confB h.pw h.np=true/\(h.words.length:Int)=h.np*h.pw/\(h.pages.length:Int)=h.np/\0<=h.space/\h.space<=1/\zfk h.pages h.bump=true/\zaG h.pw h.np h.pages 0=true:=by
 unfold okH zcI at hp;simp only [qae,qaa]at hp;obtain ⟨⟨⟨⟨⟨h1,h2⟩,h3⟩,h4⟩,h5⟩,h6⟩:=hp;exact ⟨h1,h2,h3,h4.1,h4.2,h5,h6⟩
theorem zbx(pw np:Int):∀ (ps:List Pg) (due:Int),zaG pw np ps due=true->∀ x∈ps,0<=x.space/\x.space<=1/\0<=x.pins/\x.pins<=2147483647/\(x.kind=0->x=Pg.zero)/\(x.kind=1->0<=x.used/\x.used<=pw)/\(x.kind=2->1<=zau pw np x.used)/\(x.kind=3->x.used=0/\x.pins=0)/\(x.kind=0\/x.kind=1\/x.kind=2\/x.kind=3)
 | [],_,_,x,hx=>by cases hx
 | y::r,due,h,x,hx=>by
  rw [zaG]at h;cases hs:zbT pw np y r due with
  | none=>rw [hs]at h;cases h
  | some d=>
   rw [hs]at h;rcases qat.1 hx with rfl | hx
   · unfold zbT at hs;split at hs
     · cases hs
     · rename_i hA;have h1:0<=x.space:=by omega
       have h2:x.space<=1:=by omega
       have h3:zeO x.pins=true:=by
        cases hp:zeO x.pins
        · exact absurd (Or.inr (Or.inr (Or.inr hp))) hA
        · rfl
       have h4:=qar h3;refine ⟨h1,h2,h4.1,h4.2,?_⟩;split at hs
       · rename_i k;refine ⟨fun _=>?_,fun c=>by omega,fun c=>by omega,fun c=>by omega,Or.inl k⟩
         split at hs
         · assumption
         · cases hs
       · split at hs
         · rename_i k;refine ⟨fun c=>by omega,fun _=>?_,fun c=>by omega,fun c=>by omega,Or.inr (Or.inl k)⟩
           split at hs
           · cases hs
           · omega
         · split at hs
           · rename_i k;refine ⟨fun c=>by omega,fun c=>by omega,fun _=>?_,fun c=>by omega,Or.inr (Or.inr (Or.inl k))⟩
             split at hs
             · cases hs
             · omega
           · split at hs
             · rename_i k;refine ⟨fun c=>by omega,fun c=>by omega,fun c=>by omega,fun _=>?_,Or.inr (Or.inr (Or.inr k))⟩
               split at hs
               · assumption
               · cases hs
             · cases hs
   · exact zbx pw np r d h x hx
theorem zuR{h:Hp}{a:Int}(hp:okH h=true)(he:ofE h.pw h.np a=0):inAr h.pw h.np a=true/\(∃ i j:Nat,ofI h.pw h.np a=i/\ofK h.pw h.np a=j/\i<h.pages.length/\(j:Int)<h.pw/\a=4096+i*h.pw+j)/\(∃ t:Nat,a=4096+t/\t<h.words.length):=by
 obtain ⟨h1,h2,h3,_⟩:=zaq hp;have hc:=zai h1;have hin:inAr h.pw h.np a=true:=by
  cases hi:inAr h.pw h.np a
  · rw [(ze5 h1 hi).2.2]at he;cases he
  · rfl
 obtain ⟨e1,e2,_⟩:=zgO h1 hin;obtain ⟨b1,b2⟩:=qar hin;have m1:=Int.emod_nonneg (a-4096) (show h.pw≠0 by omega)
 have m2:=Int.emod_lt_of_pos (a-4096) (show 0<h.pw by omega)
 have d1:0<=(a-4096) / h.pw:=qbP (by omega) (by omega)
 have d2:(a-4096) / h.pw<h.np:=qco (by omega) (by omega)
 have de:=Int.mul_ediv_add_emod (a-4096) h.pw;refine ⟨hin,⟨((a-4096) / h.pw).toNat,((a-4096) % h.pw).toNat,by rw [e1];omega,by rw [e2];omega,by omega,by omega,?_⟩,⟨(a-4096).toNat,by omega,by omega⟩⟩
 rw [qcC d1,qcC m1,Int.mul_comm];omega
theorem zqH{pw np:Int}{ps:List Pg}{k:Nat}{x:Pg}(h:ps[k]?=some x)(due:Int):zaG pw np (ps.drop k) due=match zbT pw np x (ps.drop (k+1)) due with | some d=>zaG pw np (ps.drop (k+1)) d | none=>false:=by
 obtain ⟨hk,rfl⟩:=qak.1 h;rw [qaU hk,zaG]
theorem zoM{pw np:Int}{nw:Nat}{ps:List Pg}{sp b:Int}(h1:confB pw np=true)(h2:(nw:Int)=np*pw)(h3:(ps.length:Int)=np)(h4:0<=sp)(h5:sp<=1)(h6:zfk ps b=true):zcI pw np nw ps sp b=zaG pw np ps 0:=by
 unfold zcI;simp [h1,h2,h3,h4,h5,h6]
def wrow(xs l:List Int)(i k:Nat):List Int:=splice xs i (l.take k)
theorem zm3{xs l:List Int}{i k:Nat}(h:i+l.length<=xs.length):(wrow xs l i k).length=xs.length:=by
 unfold wrow;rw [zcH (by rw [qau];omega)]
theorem zow(xs l:List Int)(i:Nat):wrow xs l i 0=xs:=by unfold wrow splice;simp
theorem zr4{xs l:List Int}{i k:Nat}(h:l.length<=k):wrow xs l i k=splice xs i l:=by unfold wrow;rw [qa7 h]
theorem zr3{xs l:List Int}{i k:Nat}{x:Int}(h:i+l.length<=xs.length)(hx:l[k]?=some x):(wrow xs l i k).set (i+k) x=wrow xs l i (k+1):=by
 have hk:=(qak.1 hx).1;apply qbr
 intro j;have hl1:(l.take k).length=k:=by rw [qau];omega
 have hl2:(l.take (k+1)).length=k+1:=by rw [qau];omega
 rw [qaW];by_cases h1:i+k=j
 · subst h1;rw [if_pos rfl,if_pos (by rw [zm3 h];omega)]
   unfold wrow;rw [zdj (by omega) (by omega) (by omega),qa6,if_pos (by omega),show i+k-i=k from by omega,hx]
 · rw [if_neg h1];unfold wrow;by_cases h2:i<=j/\j<i+k
   · rw [zdj (by omega) (by omega) (by omega),zdj (by omega) (by omega) (by omega),qa6,qa6,if_pos (by omega),if_pos (by omega)]
   · rw [zfx (by omega) (by omega),zfx (by omega) (by omega)]
theorem zuz(xs:List Int)(a m:Int):(zki xs a m).length<=xs.length:=by
 unfold zki;by_cases h1:m<0
 · rw [if_pos h1];exact qa8 _
 · rw [if_neg h1];by_cases h2:okA xs.length a m.toNat=true
   · rw [if_pos h2,qau,qaG];omega
   · rw [if_neg h2];exact qa8 _
theorem zrx{h:Hp}{a:Int}(h1:okH h=false):atE h a=1/\atH h a=Hd.zero:=by
 have e:atE h a=1:=by unfold atE;rw [if_neg (by simp [h1])]
 exact ⟨e,by unfold atH;rw [if_neg (by rw [e];decide)]⟩
theorem ziu{h:Hp}{a:Int}(h1:okH h=true)(h2:¬ofE h.pw h.np a=0):atE h a=2/\atH h a=Hd.zero:=by
 have e:atE h a=2:=by unfold atE;rw [if_pos h1,if_neg h2]
 exact ⟨e,by unfold atH;rw [if_neg (by rw [e];decide)]⟩
theorem zpZ{h:Hp}{a:Int}(h1:okH h=true)(h2:ofE h.pw h.np a=0)(h3:atB h a=false):atE h a=19/\atH h a=Hd.zero:=by
 have e:atE h a=19:=by unfold atE;rw [if_pos h1,if_pos h2,if_neg (by simp [h3])]
 exact ⟨e,by unfold atH;rw [if_neg (by rw [e];decide)]⟩
theorem zmU{h:Hp}{a:Int}(h1:okH h=true)(h2:ofE h.pw h.np a=0)(h3:atB h a=true):atE h a=0/\atH h a=hdOf (zaw h a):=by
 have e:atE h a=0:=by unfold atE;rw [if_pos h1,if_pos h2,if_pos h3]
 exact ⟨e,by unfold atH;rw [if_pos e]⟩
theorem word_of{h:Hp}{a:Int}(hw:WB h.words)(hp:okH h=true)(he:ofE h.pw h.np a=0):zas h.words a=zaw h a/\zkF h.words a=0/\zaw h a<18446744073709551616:=by
 obtain ⟨_,_,t,rfl,ht⟩:=zuR hp he;have hx:h.words[t]?=some (h.words[t]):=qap ht
 have hk:okA h.words.length (4096+(t:Int)) 1=true:=qac (by omega)
 obtain ⟨e1,e2⟩:=zss hk hx;obtain ⟨b1,b2⟩:=hw _ (qcp ht);have e3:zaw h (4096+(t:Int))=(h.words[t]).toNat:=by unfold zaw;rw [znt,qay,hx];rfl
 rw [e1,e2,e3];exact ⟨by omega,rfl,by omega⟩
theorem zhd{h:Hp}{a:Int}(e:¬getE h a=0):getH h a=Hd.zero:=by unfold getH;rw [if_neg e]
theorem zsB{h:Hp}{a:Int}(h1:okH h=false):getE h a=1/\getH h a=Hd.zero:=by
 have e:getE h a=1:=by unfold getE;rw [if_neg (by simp [h1])]
 exact ⟨e,zhd (by rw [e];decide)⟩
theorem zpE{h:Hp}(h1:okH h=true):getE h 0=5/\getH h 0=Hd.zero:=by
 have e:getE h 0=5:=by unfold getE;rw [if_pos h1,if_pos rfl]
 exact ⟨e,zhd (by rw [e];decide)⟩
theorem zpF{h:Hp}{a:Int}(h1:okH h=true)(h2:¬a=0)(h3:atE h a=0)(h4:(atH h a).k=0):getE h a=4/\getH h a=Hd.zero:=by
 have e:getE h a=4:=by unfold getE;rw [if_pos h1,if_neg h2,if_pos ⟨h3,h4⟩]
 exact ⟨e,zhd (by rw [e];decide)⟩
theorem zri{h:Hp}{a:Int}(h1:okH h=true)(h2:¬a=0)(h3:¬(atE h a=0/\(atH h a).k=0)):getE h a=atE h a/\getH h a=atH h a:=by
 have e:getE h a=atE h a:=by unfold getE;rw [if_pos h1,if_neg h2,if_neg h3]
 refine ⟨e,?_⟩;unfold getH;by_cases h4:getE h a=0
 · rw [if_pos h4]
 · rw [if_neg h4];rw [e]at h4;unfold atH;rw [if_neg h4]
theorem zrh{h:Hp}{a:Int}(e:getE h a=0):okH h=true/\atE h a=0/\getH h a=atH h a/\ofE h.pw h.np a=0/\atB h a=true/\4096<=a/\a<8192/\0<=(getH h a).n/\(getH h a).n<=255/\¬(getH h a).k=0:=by
 have h1:okH h=true:=by
  cases h1:okH h
  · rw [(zsB (a:=a) h1).1]at e;cases e
  · rfl
 have h2:¬a=0:=by intro h2;subst h2;rw [(zpE h1).1]at e;cases e
 have h3:¬(atE h a=0/\(atH h a).k=0):=by rintro ⟨h3,h4⟩;rw [(zpF h1 h2 h3 h4).1]at e;cases e
 obtain ⟨e1,e2⟩:=zri h1 h2 h3;have h4:atE h a=0:=by rw [<-e1];exact e
 have h5:ofE h.pw h.np a=0:=by
  by_cases h5:ofE h.pw h.np a=0
  · exact h5
  · rw [(ziu h1 h5).1]at h4;cases h4
 have h6:atB h a=true:=by
  cases h6:atB h a
  · rw [(zpZ h1 h5 h6).1]at h4;cases h4
  · rfl
 obtain ⟨hin,_,t,ht,htl⟩:=zuR h1 h5;obtain ⟨g1,g2,_⟩:=zaq h1;have:=(conf_prod g1).2
 have hok:okD (zaw h a)=true:=by
  unfold atB at h6;simp only [qae]at h6;exact h6.1.2
 have hv:=zay (zcq hok).2.2;have hH:getH h a=hdOf (zaw h a):=by rw [e2,(zmU h1 h5 h6).2]
 refine ⟨h1,h4,e2,h5,h6,by omega,by omega,?_,?_,?_⟩
 · rw [hH];exact hv.2.2.1
 · rw [hH];exact hv.2.2.2.1
 · rw [e2];intro c;exact h3 ⟨h4,c⟩
theorem zoy{xs l:List Int}{i:Nat}(h:WB xs)(hl:WB l):WB (splice xs i l):=by
 intro x hx;unfold splice at hx;rcases qas.1 hx with hx | hx
 · exact h x (qcn hx)
 · rcases qas.1 hx with hx | hx
   · exact hl x hx
   · exact h x (qcr hx)
theorem zfv{xs l:List Int}{a:Int}(h:WB xs)(hl:WB l):WB (zaF xs a l):=by
 unfold zaF;split
 · exact zoy h hl
 · exact WB.nil
def zdv(k n m:Int):List Int:=zdD k n m::List.replicate n.toNat 0
def zim(h:Hp)(a k n m:Int):Int:=if zaA k n m=true/\okH h=true then zeS h.words a (zdv k n m) else 1
def zkI(h:Hp)(a k n m:Int):Hp:=if zim h a k n m=0 then { h with words:=zaF h.words a (zdv k n m) } else Hp.zero
theorem zhb{k n m:Int}:(zdv k n m).length=n.toNat+1:=by unfold zdv;rw [qaM,qbc]
theorem zwv{k n m:Int}(h:zaA k n m=true)(hm:0<=m):WB (zdv k n m):=by
 intro x hx;rcases qat.1 hx with rfl | hx
 · have:=zqs h hm;omega
 · exact WB.zeros _ x hx
def zvq(h:Hp)(a:Int):Int:=if getE h a=0 then znk h.words (a+1) (getH h a).n else getE h a
def zbM(h:Hp)(a:Int):List Int:=if getE h a=0 then zki h.words (a+1) (getH h a).n else []
theorem zle(pw np p o:Int):0<=za2 pw np p o/\za2 pw np p o<18446744073709551616:=by
 cases h:confB pw np
 · unfold za2;rw [h];simp
 · cases h1:inPg pw np p o
   · rw [(zof h h1).1];omega
   · rw [(zdy h h1).1];have hc:=conf_prod h;obtain ⟨a1,a2,a3,a4⟩:=qar h1;obtain ⟨c1,c2,_⟩:=zai h;have e1:p*pw<=(np-1)*pw:=qaR (by omega) (by omega)
     have e2:(np-1)*pw=np*pw-pw:=by rw [Int.sub_mul,qbj]
     have e3:0<=p*pw:=qa0 a1 (by omega)
     omega
theorem zgn{h:Hp}{a:Int}(e:atE h a=0):okH h=true/\zaA (atH h a).k (atH h a).n (atH h a).m=true/\0<=(atH h a).m/\(atH h a).m<4294967296/\0<=(atH h a).n/\(atH h a).n<=255:=by
 have h1:okH h=true:=by
  cases h1:okH h
  · unfold atE at e;rw [h1]at e;simp at e
  · rfl
 have h5:ofE h.pw h.np a=0:=by
  by_cases h5:ofE h.pw h.np a=0
  · exact h5
  · rw [(ziu h1 h5).1]at e;cases e
 have h6:atB h a=true:=by
  cases h6:atB h a
  · rw [(zpZ h1 h5 h6).1]at e;cases e
  · rfl
 have hok:okD (zaw h a)=true:=by
  unfold atB at h6;simp only [qae]at h6;exact h6.1.2
 have hv:=(zcq hok).2.2;have hp:=zay hv;have hm:=zj3 hv;rw [(zmU h1 h5 h6).2];exact ⟨h1,hv,Int.natCast_nonneg _,hm,hp.2.2.1,hp.2.2.2.1⟩
theorem zxa{h:Hp}{a:Int}(e:¬atE h a=0):atH h a=Hd.zero:=by unfold atH;exact if_neg e
def zb1(h:Hp)(i:Int)(big:Bool)(u o:Nat):Option (List Int) :=
 if _hlt:o<u then
  if atE h (za2 h.pw h.np i o)=0 then
   if big then some [za2 h.pw h.np i o]
   else (zb1 h i big u (o+((atH h (za2 h.pw h.np i o)).n.toNat+1))).map (za2 h.pw h.np i o :: ·)
  else none
 else some []
 termination_by u-o
theorem zbF{h:Hp}{i:Int}{big:Bool}{u o:Nat}(hlt:¬o<u):zb1 h i big u o=some []:=by
 rw [zb1,dif_neg hlt]
theorem zcU{h:Hp}{i:Int}{big:Bool}{u o:Nat}(hlt:o<u)(e:¬atE h (za2 h.pw h.np i o)=0):zb1 h i big u o=none:=by
 rw [zb1,dif_pos hlt,if_neg e]
theorem zdE{h:Hp}{i:Int}{u o:Nat}(hlt:o<u)(e:atE h (za2 h.pw h.np i o)=0):zb1 h i true u o=some [za2 h.pw h.np i o]:=by
 rw [zb1,dif_pos hlt,if_pos e,if_pos rfl]
theorem zcZ{h:Hp}{i:Int}{u o:Nat}(hlt:o<u)(e:atE h (za2 h.pw h.np i o)=0):zb1 h i false u o=(zb1 h i false u (o+((atH h (za2 h.pw h.np i o)).n.toNat+1))).map (za2 h.pw h.np i o :: ·):=by
 rw [zb1,dif_pos hlt,if_pos e,if_neg (by decide)]
def zcD(h:Hp)(i:Int)(big:Bool)(u o:Nat)(acc:List Int):Prop:=zb1 h i big u 0=(zb1 h i big u o).map (acc ++ ·)
theorem zcD.start(h:Hp)(i:Int)(big:Bool)(u:Nat):zcD h i big u 0 []:=by
 unfold zcD;cases zb1 h i big u 0 <;> simp
theorem zcD.fin{h:Hp}{i:Int}{big:Bool}{u o:Nat}{acc:List Int}(hw:zcD h i big u o acc)(hlt:¬o<u):zb1 h i big u 0=some acc:=by
 unfold zcD at hw;rw [hw,zbF hlt];simp
theorem zcD.bad{h:Hp}{i:Int}{big:Bool}{u o:Nat}{acc:List Int}(hw:zcD h i big u o acc)(hlt:o<u)(e:¬atE h (za2 h.pw h.np i o)=0):zb1 h i big u 0=none:=by
 unfold zcD at hw;rw [hw,zcU hlt e];rfl
theorem zcD.big{h:Hp}{i:Int}{u o:Nat}{acc:List Int}(hw:zcD h i true u o acc)(hlt:o<u)(e:atE h (za2 h.pw h.np i o)=0):zb1 h i true u 0=some (acc++[za2 h.pw h.np i o]):=by
 unfold zcD at hw;rw [hw,zdE hlt e];rfl
theorem zcD.step{h:Hp}{i:Int}{u o:Nat}{acc:List Int}(hw:zcD h i false u o acc)(hlt:o<u)(e:atE h (za2 h.pw h.np i o)=0):zcD h i false u (o+((atH h (za2 h.pw h.np i o)).n.toNat+1)) (acc++[za2 h.pw h.np i o]):=by
 unfold zcD at hw ⊢;rw [hw,zcZ hlt e]
 cases zb1 h i false u (o+((atH h (za2 h.pw h.np i o)).n.toNat+1)) <;> simp
def pgAt(h:Hp)(i:Int):Pg:=h.pages.getD i.toNat Pg.zero
def zco(h:Hp)(i:Int):Option (List Int):=zb1 h i (decide ((pgAt h i).kind=2)) (pgAt h i).used.toNat 0
def zbc(h:Hp)(i:Int):Int:=if okH h then (if i<0\/h.pages.length<=i then 2 else if (pgAt h i).kind=0\/(pgAt h i).kind=3 then 0 else if (zco h i).isSome then 0 else 19) else 1
def zaD(h:Hp)(i:Int):List Int:=if okH h then (if i<0\/h.pages.length<=i then [] else if (pgAt h i).kind=0\/(pgAt h i).kind=3 then [] else (zco h i).getD []) else []
theorem znr{h:Hp}{i:Int}(h1:okH h=false):zbc h i=1/\zaD h i=[]:=by
 unfold zbc zaD;rw [if_neg (by simp [h1]),if_neg (by simp [h1])];exact ⟨rfl,rfl⟩
theorem znq{h:Hp}{i:Int}(h1:okH h=true)(h2:i<0\/h.pages.length<=i):zbc h i=2/\zaD h i=[]:=by
 unfold zbc zaD;rw [if_pos h1,if_pos h1,if_pos h2,if_pos h2];exact ⟨rfl,rfl⟩
theorem ze0{h:Hp}{i:Int}(h1:okH h=true)(h2:¬(i<0\/h.pages.length<=i))(h3:(pgAt h i).kind=0\/(pgAt h i).kind=3):zbc h i=0/\zaD h i=[]:=by
 unfold zbc zaD;rw [if_pos h1,if_pos h1,if_neg h2,if_neg h2,if_pos h3,if_pos h3];exact ⟨rfl,rfl⟩
theorem zd6{h:Hp}{i:Int}(h1:okH h=true)(h2:¬(i<0\/h.pages.length<=i))(h3:¬((pgAt h i).kind=0\/(pgAt h i).kind=3)):zbc h i=(if (zco h i).isSome then 0 else 19)/\zaD h i=(zco h i).getD []:=by
 unfold zbc zaD;rw [if_pos h1,if_pos h1,if_neg h2,if_neg h2,if_neg h3,if_neg h3];exact ⟨rfl,rfl⟩
theorem zgL{h:Hp}{i:Int}{l:List Int}(h1:okH h=true)(h2:¬(i<0\/h.pages.length<=i))(h3:¬((pgAt h i).kind=0\/(pgAt h i).kind=3))(h4:zco h i=some l):zbc h i=0/\zaD h i=l:=by
 obtain ⟨e1,e2⟩:=zd6 h1 h2 h3;rw [e1,e2,h4];exact ⟨rfl,rfl⟩
theorem zoU{h:Hp}{i:Int}(h1:okH h=true)(h2:¬(i<0\/h.pages.length<=i))(h3:¬((pgAt h i).kind=0\/(pgAt h i).kind=3))(h4:zco h i=none):zbc h i=19/\zaD h i=[]:=by
 obtain ⟨e1,e2⟩:=zd6 h1 h2 h3;rw [e1,e2,h4];exact ⟨rfl,rfl⟩
def zjq(h:Hp)(i o:Int):Int:=zas h.words (za2 h.pw h.np i o)
theorem zr8(h:Hp)(i:Int)(u:Nat):∀ (f o:Nat) (l:List Int),u-o<=f->zb1 h i false u o=some l->l.length<=u-o
 | 0,o,l,hf,hl=>by
  rw [zbF (by omega)]at hl;cases hl;simp
 | f+1,o,l,hf,hl=>by
  by_cases hlt:o<u
  · by_cases e:atE h (za2 h.pw h.np i o)=0
    · rw [zcZ hlt e]at hl;cases hr:zb1 h i false u (o+((atH h (za2 h.pw h.np i o)).n.toNat+1)) with
      | none=>rw [hr]at hl;cases hl
      | some r=>
       rw [hr]at hl;cases hl
       have:=zr8 h i u f _ r (by omega) hr
       rw [qaM];omega
    · rw [zcU hlt e]at hl;cases hl
  · rw [zbF hlt]at hl;cases hl;simp
theorem ze1{h:Hp}{i:Int}(h1:okH h=true):(zaD h i).length<=64:=by
 by_cases h2:i<0\/h.pages.length<=i
 · rw [(znq h1 h2).2];simp
 · by_cases h3:(pgAt h i).kind=0\/(pgAt h i).kind=3
   · rw [(ze0 h1 h2 h3).2];simp
   · rw [(zd6 h1 h2 h3).2];cases hw:zco h i with
     | none=>simp
     | some l=>
      rw [Option.getD_some];unfold zco at hw;by_cases h4:(pgAt h i).kind=2
      · rw [qac h4]at hw;by_cases hlt:0<(pgAt h i).used.toNat
        · by_cases e:atE h (za2 h.pw h.np i ((0:Nat):Int))=0
          · rw [zdE hlt e]at hw;cases hw;simp
          · rw [zcU hlt e]at hw;cases hw
        · rw [zbF hlt]at hw;cases hw;simp
      · rw [qaj h4]at hw;have hlen:=zr8 h i _ _ _ _ (qam _) hw;obtain ⟨g1,-,-,-,-,-,hL⟩:=zaq h1;have hpw:=(zai g1).2.1;have hil:i.toNat<h.pages.length:=by omega
        have hmem:pgAt h i∈h.pages:=by
         unfold pgAt;rw [zav (qap hil)];exact qcp hil
        obtain ⟨-,-,-,-,-,k1,-,-,hk⟩:=zbx _ _ _ _ hL _ hmem;have:=k1 (by omega)
        omega
theorem zuI{h:Hp}{i:Int}(h1:okH h=true)(h2:¬(i<0\/h.pages.length<=i))(h3:¬zbc h i=0):zbc h i=19:=by
 unfold zbc at h3 ⊢
 rw [if_pos h1,if_neg h2]at h3 ⊢
 split at h3
 · exact absurd rfl h3
 · rename_i h4;rw [if_neg h4];split at h3
   · exact absurd rfl h3
   · rename_i h5;rw [if_neg h5]
def zbw(h:Hp)(k:Nat):List Int:=(List.range k).flatMap (fun (j:Nat)=>zaD h j)
def zhV(h:Hp):Bool:=(List.range h.pages.length).all (fun (j:Nat)=>decide (zbc h j=0))
def zbS(h:Hp):Int:=if okH h then (if zhV h then 0 else 19) else 1
def zaL(h:Hp):List Int:=if okH h then (if zhV h then zbw h h.pages.length else []) else []
theorem zmk{h:Hp}(h1:okH h=false):zbS h=1/\zaL h=[]:=by
 unfold zbS zaL;rw [if_neg (by simp [h1]),if_neg (by simp [h1])];exact ⟨rfl,rfl⟩
theorem zoH{h:Hp}{k:Nat}(h1:okH h=true)(hk:k<h.pages.length)(h2:¬zbc h k=0):zbS h=19/\zaL h=[]:=by
 have hB:zhV h=false:=by
  rw [<-qbs];intro c
  unfold zhV at c;exact h2 (qar (qaO.1 c k (qbJ.2 hk)))
 unfold zbS zaL;rw [if_pos h1,if_pos h1,if_neg (by simp [hB]),if_neg (by simp [hB])];exact ⟨rfl,rfl⟩
theorem zd3{h:Hp}(h1:okH h=true)(h2:∀ k:Nat,k<h.pages.length->zbc h k=0):zbS h=0/\zaL h=zbw h h.pages.length:=by
 have hB:zhV h=true:=by
  unfold zhV;exact qaO.2 fun j hj=>qac (h2 j (qbJ.1 hj))
 unfold zbS zaL;rw [if_pos h1,if_pos h1,if_pos hB,if_pos hB];exact ⟨rfl,rfl⟩
theorem zej(h:Hp)(k:Nat):zbw h (k+1)=zbw h k++zaD h k:=by
 unfold zbw;rw [List.range_succ,List.flatMap_append];simp
theorem zeU{h:Hp}(h1:okH h=true):∀ k,(zbw h k).length<=64*k
 | 0=>by simp [zbw]
 | k+1=>by
  rw [zej,qaB];have:=zeU h1 k
  have:=ze1 (i:=k) h1
  omega
theorem zud(h:Hp)(i:Int)(big:Bool)(u:Nat):∀ (f o:Nat) (l:List Int),u-o<=f->zb1 h i big u o=some l->WB l
 | 0,o,l,hf,hl=>by
  rw [zbF (by omega)]at hl;cases hl;exact WB.nil
 | f+1,o,l,hf,hl=>by
  by_cases hlt:o<u
  · by_cases e:atE h (za2 h.pw h.np i o)=0
    · cases big
      · rw [zcZ hlt e]at hl;cases hr:zb1 h i false u (o+((atH h (za2 h.pw h.np i o)).n.toNat+1)) with
        | none=>rw [hr]at hl;cases hl
        | some r=>
         rw [hr]at hl;cases hl
         intro x hx;rcases qat.1 hx with rfl | hx
         · exact zle _ _ _ _
         · exact zud h i false u f _ r (by omega) hr x hx
      · rw [zdE hlt e]at hl;cases hl
        intro x hx;rw [qaw.1 hx];exact zle _ _ _ _
    · rw [zcU hlt e]at hl;cases hl
  · rw [zbF hlt]at hl;cases hl;exact WB.nil
theorem zsj(h:Hp)(i:Int):WB (zaD h i):=by
 unfold zaD;split
 · split
   · exact WB.nil
   · split
     · exact WB.nil
     · cases hw:zco h i with
       | none=>exact WB.nil
       | some l=>exact zud h i _ _ _ _ l (qam _) hw
 · exact WB.nil
theorem zml(h:Hp):WB (zaL h):=by
 unfold zaL;split
 · split
   · intro x hx;obtain ⟨j,-,hj⟩:=List.mem_flatMap.1 hx;exact zsj h j x hj
   · exact WB.nil
 · exact WB.nil
theorem zcG(h:Hp):(zaL h).length<=4096:=by
 unfold zaL;split
 · rename_i h1;split
   · have:=zeU h1 h.pages.length
     obtain ⟨g1,_,g3,_⟩:=zaq h1;have:=(zai g1).2.2.2.2
     omega
   · simp
 · simp
def zbW(h:Hp)(l:List Int):List Int:=l.filter (fun a=>decide (¬(atH h a).k=0))
def zag(h:Hp):List Int:=zbW h (zaL h)
theorem objs_in{h:Hp}{l:List Int}{k:Nat}{x:Int}(hx:l[k]?=some x)(hk:¬(atH h x).k=0):zbW h (l.take (k+1))=zbW h (l.take k)++[x]:=by
 unfold zbW;rw [zbk hx,qcj];simp [hk]
theorem zwl{h:Hp}{l:List Int}{k:Nat}{x:Int}(hx:l[k]?=some x)(hk:(atH h x).k=0):zbW h (l.take (k+1))=zbW h (l.take k):=by
 unfold zbW;rw [zbk hx,qcj];simp [hk]
theorem zwm(h:Hp)(l:List Int)(k:Nat):(zbW h (l.take k)).length<=l.length:=by
 unfold zbW;exact qaD (qbz _ _) (by rw [qau];omega)
def zpL(P:Int->Bool):List Int->Int
 | []=>0
 | x::r=>if P x then x else zpL P r
theorem zsD{P:Int->Bool}{l:List Int}{k:Nat}{x:Int}(h:l[k]?=some x):zpL P (l.drop k)=if P x then x else zpL P (l.drop (k+1)):=by
 obtain ⟨hk,rfl⟩:=qak.1 h;rw [qaU hk,zpL]
theorem zpK{P:Int->Bool}{l:List Int}{k:Nat}(h:l.length<=k):zpL P (l.drop k)=0:=by
 rw [qbp h];rfl
theorem atH_m(h:Hp)(a:Int):0<=(atH h a).m/\(atH h a).m<4294967296:=by
 by_cases e:atE h a=0
 · have:=zgn e;exact ⟨this.2.2.1,this.2.2.2.1⟩
 · rw [zxa e];decide
def clsB(h:Hp)(i:Nat)(x:Int):Bool :=
 (decide ((pgAt h i).kind=1) && !decide (zaO (atH h x).k (atH h x).n (atH h x).m<=zdG h.pw h.np)) || (decide ((pgAt h i).kind=2)&&decide ((atH h x).k=0))
def clsV(h:Hp)(i:Nat)(l:List Int):Int:=zpL (clsB h i) l
def zbr(ps:List Pg):Nat->Nat
 | 0=>0
 | j+1=>if (ps.getD (j+1) Pg.zero).kind=3 then zbr ps j else j+1
theorem zpC(ps:List Pg):∀ i,zbr ps i<=i
 | 0=>qam _
 | j+1=>by unfold zbr;split;exact Nat.le_succ_of_le (zpC ps j);exact qam _
theorem zvi{h:Hp}(h1:okH h=true):¬(h.pages.getD 0 Pg.zero).kind=3:=by
 obtain ⟨-,-,-,-,-,-,hL⟩:=zaq h1;cases hp:h.pages with
 | nil=>simp [Pg.zero]
 | cons x r=>
  rw [hp,zaG]at hL;intro hk;have hk':x.kind=3:=hk
  unfold zbT at hL;rw [if_pos (Or.inl (by rw [hk'];simp))]at hL
  cases hL
def zc3(h:Hp)(x:Int):Int:=if (atH h x).k=0 then 1 else zaO (atH h x).k (atH h x).n (atH h x).m
def zm6(h:Hp)(i:Nat)(l:List Int)(t:Nat):Bool:=l.any fun x=>decide (x-4096-(i:Int)*h.pw<=t/\(t:Int)<x-4096-(i:Int)*h.pw+zc3 h x)
def zf4(h:Hp)(i:Nat)(l:List Int):List Bool:=(List.range h.pw.toNat).map (zm6 h i l)
def zhT(h:Hp)(i:Nat)(l:List Int)(x:Int)(z:Nat):List Bool:=(List.range h.pw.toNat).map fun t=>zm6 h i l t || decide (x-4096-(i:Int)*h.pw<=t/\(t:Int)<x-4096-(i:Int)*h.pw+z)
theorem zoC(h:Hp)(i:Nat)(l:List Int)(x:Int)(z:Nat):(zhT h i l x z).length=h.pw.toNat:=by unfold zhT;rw [qai,qb6]
theorem zsT(h:Hp)(i:Nat)(l:List Int)(x:Int):zhT h i l x 0=zf4 h i l:=by
 unfold zhT zf4;congr 1;funext t
 rw [show decide (x-4096-(i:Int)*h.pw<=t/\(t:Int)<x-4096-(i:Int)*h.pw+((0:Nat):Int))=false from qaj (by omega),Bool.or_false]
theorem zvQ{h:Hp}{i:Nat}{l:List Int}{x:Int}{z T:Nat}(hT:x-4096-(i:Int)*h.pw+z=T)(hp:T<h.pw.toNat):(zhT h i l x z).set T true=zhT h i l x (z+1):=by
 apply qbr
 intro j;rw [qaW,zoC];unfold zhT;rw [qbo,qbo];by_cases hj:j<h.pw.toNat
 · rw [List.getElem?_range hj];by_cases hjT:T=j
   · subst hjT;rw [if_pos rfl,if_pos hp];simp only [qbH];rw [qac (by omega),Bool.or_true]
   · rw [if_neg hjT];simp only [qbH];congr 2
     exact qcd.2 (by omega)
 · rw [qbQ (by rw [qb6];omega),if_neg (by omega)]
   rfl
theorem zui{h:Hp}{i:Nat}{l:List Int}{x:Int}{z:Nat}(hT:x-4096-(i:Int)*h.pw+z<0\/h.pw<=x-4096-(i:Int)*h.pw+z):zhT h i l x (z+1)=zhT h i l x z:=by
 unfold zhT;apply List.map_congr_left
 intro t ht;have:=qbJ.1 ht
 congr 1
 exact qcd.2 (by omega)
theorem zuj{h:Hp}{i:Nat}{l:List Int}{x:Int}{z:Nat}(hz:zc3 h x=z):zhT h i l x z=zf4 h i (l++[x]):=by
 unfold zhT zf4;congr 1;funext t
 unfold zm6;rw [List.any_append,List.any_cons,List.any_nil,Bool.or_false,hz]
theorem zvP(h:Hp)(x:Int):1<=zc3 h x/\zc3 h x<=256:=by
 unfold zc3;split
 · omega
 · by_cases e:atE h x=0
   · have:=zgn e
     rw [zcm this.2.1];omega
   · rw [zxa e];decide
theorem zuh(h:Hp)(i:Nat):zf4 h i []=List.replicate h.pw.toNat false:=by
 unfold zf4 zm6;rw [List.eq_replicate_iff];refine ⟨by rw [qai,qb6],fun b hb=>?_⟩
 obtain ⟨t,-,rfl⟩:=qax.1 hb
 rfl
theorem zqt(h:Hp)(i:Int)(big:Bool)(u:Nat):∀ (f o:Nat) (l:List Int),u-o<=f->zb1 h i big u o=some l->∀ x∈l,atE h x=0/\∃ o':Nat,o<=o'/\o'<u/\x=za2 h.pw h.np i o'
 | 0,o,l,hf,hl,x,hx=>by
  rw [zbF (by omega)]at hl;cases hl;cases hx
 | f+1,o,l,hf,hl,x,hx=>by
  by_cases hlt:o<u
  · by_cases e:atE h (za2 h.pw h.np i o)=0
    · cases big
      · rw [zcZ hlt e]at hl;cases hr:zb1 h i false u (o+((atH h (za2 h.pw h.np i o)).n.toNat+1)) with
        | none=>rw [hr]at hl;cases hl
        | some r=>
         rw [hr]at hl;cases hl
         rcases qat.1 hx with rfl | hx
         · exact ⟨e,o,qam _,hlt,rfl⟩
         · obtain ⟨a,o',b1,b2,b3⟩:=zqt h i false u f _ r (by omega) hr x hx
           exact ⟨a,o',by omega,b2,b3⟩
      · rw [zdE hlt e]at hl;cases hl
        rw [qaw.1 hx];exact ⟨e,o,qam _,hlt,rfl⟩
    · rw [zcU hlt e]at hl;cases hl
  · rw [zbF hlt]at hl;cases hl;cases hx
theorem zdJ{h:Hp}{i:Int}{x:Int}(hx:x∈zaD h i):atE h x=0:=by
 unfold zaD at hx;split at hx
 · split at hx
   · cases hx
   · split at hx
     · cases hx
     · cases hw:zco h i with
       | none=>rw [hw]at hx;cases hx
       | some l=>
        rw [hw]at hx;exact (zqt h i _ _ _ _ l (qam _) hw x hx).1
 · cases hx
theorem zvw{h:Hp}{x:Int}(e:atE h x=0):4096<=x/\x<8192:=by
 have h1:=(zgn e).1;have h5:ofE h.pw h.np x=0:=by
  by_cases h5:ofE h.pw h.np x=0
  · exact h5
  · rw [(ziu h1 h5).1]at e;cases e
 obtain ⟨-,-,t,ht,htl⟩:=zuR h1 h5;obtain ⟨k1,k2,-⟩:=zaq h1;have:=(conf_prod k1).2
 omega
theorem zfw{h:Hp}{x:Int}(hx:x∈zaL h):atE h x=0:=by
 unfold zaL at hx;split at hx
 · split at hx
   · unfold zbw at hx;obtain ⟨j,-,hj⟩:=List.mem_flatMap.1 hx;exact zdJ hj
   · cases hx
 · cases hx
theorem zdr{h:Hp}{x:Int}(hx:x∈zag h):atE h x=0/\¬(atH h x).k=0:=by
 unfold zag zbW at hx;obtain ⟨h1,h2⟩:=qbG.1 hx;exact ⟨zfw h1,qar h2⟩
def zc1(h:Hp)(i:Nat):Nat->List Bool->Int
 | _,[]=>0
 | k,b::r=>if b=false/\¬zjq h i k=0 then 4096+(i:Int)*h.pw+k else zc1 h i (k+1) r
def zk4(h:Hp)(i:Nat):Int:=zc1 h i 0 (zf4 h i (zaD h (zbr h.pages i)))
theorem dirt_at{h:Hp}{i:Nat}{l:List Bool}{k:Nat}{b:Bool}(hb:l[k]?=some b):zc1 h i k (l.drop k)=if b=false/\¬zjq h i k=0 then 4096+(i:Int)*h.pw+k else zc1 h i (k+1) (l.drop (k+1)):=by
 obtain ⟨hk,rfl⟩:=qak.1 hb;rw [qaU hk,zc1]
theorem zwC{h:Hp}{i:Nat}{l:List Bool}{k:Nat}(hk:l.length<=k):zc1 h i k (l.drop k)=0:=by
 rw [qbp hk];rfl
theorem zoB(h:Hp)(i:Nat)(l:List Int):(zf4 h i l).length=h.pw.toNat:=by unfold zf4;rw [qai,qb6]
structure Fd where
 fault:Int
 page:Int
 addr:Int
 deriving DecidableEq
def Fd.none:Fd:=⟨0,0,0⟩
def ze2(h:Hp)(i:Nat):Fd :=
 if ¬(pgAt h i).kind=0/\¬(pgAt h i).space=h.space then ⟨2,i,0⟩
 else if ¬zbc h i=0 then ⟨3,i,0⟩
 else if ¬clsV h i (zaD h i)=0 then ⟨5,i,clsV h i (zaD h i)⟩
 else if ¬zk4 h i=0 then ⟨4,i,zk4 h i⟩ else Fd.none
theorem getH_m(h:Hp)(a:Int):0<=(getH h a).m/\(getH h a).m<4294967296:=by
 by_cases e:getE h a=0
 · rw [(zrh e).2.2.1];exact atH_m h a
 · rw [zhd e];decide
theorem zrn(h:Hp)(a:Int):(zbM h a).length<=h.words.length:=by
 unfold zbM;split
 · exact zuz _ _ _
 · simp
def za1(all:List Int)(x:Hd):Nat->List Int->Option Nat
 | _,[]=>none
 | k,f::r=>if ptrB x.k x.n x.m k=true/\¬f=0/\¬f∈all then some k else za1 all x (k+1) r
theorem bad_at{all:List Int}{x:Hd}{l:List Int}{k:Nat}{f:Int}(hf:l[k]?=some f):za1 all x k (l.drop k)=if ptrB x.k x.n x.m k=true/\¬f=0/\¬f∈all then some k else za1 all x (k+1) (l.drop (k+1)):=by
 obtain ⟨hk,rfl⟩:=qak.1 hf;rw [qaU hk,za1]
theorem bad_end{all:List Int}{x:Hd}{l:List Int}{k:Nat}(hk:l.length<=k):za1 all x k (l.drop k)=none:=by
 rw [qbp hk];rfl
def zqG(h:Hp)(a:Int):Fd:=⟨6,ofI h.pw h.np a,a⟩
def zcn(h:Hp)(all:List Int):List Int->Fd
 | []=>Fd.none
 | x::r=>match za1 all (getH h x) 0 (zbM h x) with | some k=>zqG h (x+1+k) | none=>zcn h all r
def zbV(h:Hp):Fd:=zcn h (zag h) (zag h)
theorem zuC{h:Hp}{all l:List Int}{k:Nat}{x:Int}(hx:l[k]?=some x):zcn h all (l.drop k)=match za1 all (getH h x) 0 (zbM h x) with | some k=>zqG h (x+1+k) | none=>zcn h all (l.drop (k+1)):=by
 obtain ⟨hk,rfl⟩:=qak.1 hx;rw [qaU hk,zcn]
theorem zsg{h:Hp}{all l:List Int}{k:Nat}(hk:l.length<=k):zcn h all (l.drop k)=Fd.none:=by
 rw [qbp hk];rfl
def zaQ(h:Hp):Nat->Nat->Fd
 | _,0=>Fd.none
 | i,n+1=>if ¬(ze2 h i).fault=0 then ze2 h i else zaQ h (i+1) n
def zaS:List Pg->Nat
 | []=>0
 | x::r=>(if x.kind=1/\0<x.pins then 1 else 0)+zaS r
theorem zhk:∀ a b:List Pg,zaS (a++b)=zaS a+zaS b
 | [],b=>by simp [zaS]
 | x::r,b=>by rw [qaF,zaS,zaS,zhk r b];omega
theorem zgm{ps:List Pg}{k:Nat}{x:Pg}(h:ps[k]?=some x):zaS (ps.take (k+1))=zaS (ps.take k)+if x.kind=1/\0<x.pins then 1 else 0:=by
 rw [zbk h,zhk];simp [zaS]
theorem zpR:∀ ps:List Pg,zaS ps<=ps.length
 | []=>qam _
 | x::r=>by have:=zpR r;unfold zaS;rw [qaM];split <;> omega
def zfj(h:Hp):Fd :=
 if okH h then
  (if ¬(zaQ h 0 h.pages.length).fault=0 then zaQ h 0 h.pages.length
   else if ¬(zbV h).fault=0 then zbV h
   else if h.np / 4<zaS h.pages then ⟨7,0,0⟩ else Fd.none)
 else ⟨1,0,0⟩
def zrg(h:Hp):Bool:=decide ((zfj h).fault=0)
theorem zmR{h:Hp}(e:(zfj h).fault=0):zfj h=Fd.none:=by
 unfold zfj at e ⊢
 split at e
 · rename_i h1;rw [if_pos h1];split at e
   · contradiction
   · rename_i h2;rw [if_neg h2];split at e
     · contradiction
     · rename_i h3;rw [if_neg h3];split at e
       · cases e
       · rename_i h4;rw [if_neg h4]
 · cases e
def zh0(h:Hp)(l:List Int):Bool:=zrg h&&l.all fun x=>decide (x=0\/x∈zag h)
theorem all_at{P:Int->Bool}{l:List Int}{k:Nat}{x:Int}(hx:l[k]?=some x):(l.drop k).all P=(P x&&(l.drop (k+1)).all P):=by
 obtain ⟨hk,rfl⟩:=qak.1 hx;rw [qaU hk,List.all_cons]
def zjA(pw np k n m:Int):Bool:=zaA k n m&&decide (¬k=0)&&decide (¬zau pw np (zaO k n m) = -1)
theorem zoJ(ps:List Pg):∀ (k:Nat) (r:Int×Int),r∈zb8 ps k->∀ t:Nat,r.1<=t->(t:Int)<r.1+r.2->∃ x,ps[t]?=some x/\x.kind=0
 | 0,r,h=>by simp [zb8]at h
 | k+1,r,h=>by
  have ih:=zoJ ps k;cases hx:ps[k]? with
  | none=>rw [zb8,hx]at h;exact ih r h
  | some x=>
   rw [zek hx]at h;by_cases h0:x.kind=0
   · rcases zhZ (zb8 ps k) with e | ⟨pre,q,e⟩
     · rw [e,zel h0]at h;simp at h;subst h
       intro t h1 h2;obtain rfl:t=k:=by simp only at h1 h2;omega
       exact ⟨x,hx,h0⟩
     · by_cases he:q.1+q.2=k
       · rw [e,zdH h0 he]at h;rcases qas.1 h with h | h
         · exact ih r (by rw [e];exact qa1 _ h)
         · simp at h;subst h
           intro t h1 h2;by_cases ht:t=k
           · subst ht;exact ⟨x,hx,h0⟩
           · exact ih q (by rw [e];simp) t h1 (by simp only at h2;omega)
       · rw [e,zem h0 he]at h;rcases qas.1 h with h | h
         · exact ih r (by rw [e];exact h)
         · simp at h;subst h
           intro t h1 h2;obtain rfl:t=k:=by simp only at h1 h2;omega
           exact ⟨x,hx,h0⟩
   · rw [zfB h0]at h;exact ih r h
theorem zhg{k:Int}:∀ l:List (Int×Int),zbl k l = -1\/∃ r∈l,zbl k l=r.1/\1<=k/\k<=r.2
 | []=>Or.inl rfl
 | r::t=>by
  unfold zbl;split
  · rename_i h;exact Or.inr ⟨r,by simp,rfl,h⟩
  · rcases zhg t with h | ⟨q,hq,h⟩
    · exact Or.inl h
    · exact Or.inr ⟨q,by simp [hq],h⟩
theorem zdf{ps:List Pg}{k:Int}(h:0<=zaz ps k):1<=k/\zaz ps k+k<=ps.length/\∀ t:Nat,zaz ps k<=t->(t:Int)<zaz ps k+k->∃ x,ps[t]?=some x/\x.kind=0:=by
 rw [zkS]at h ⊢
 rcases zhg (k:=k) (zqB ps) with e | ⟨r,hr,e,h1,h2⟩
 · omega
 · rw [e];have hb:=zqA ps ps.length r hr;exact ⟨h1,by omega,fun t a b=>zoJ ps ps.length r hr t a (by omega)⟩
def zjb(h:Hp):Pg:=h.pages.getD h.bump.toNat Pg.zero
def newB(h:Hp)(n:Int):Bool:=decide (h.bump<0\/¬(zjb h).space=h.space\/h.pw<(zjb h).used+n\/zfV h.pw h.np<zbE h.pages)
def zdk(h:Hp):Bool:=decide (zaz h.pages 1<0\/zfV h.pw h.np<=zbE h.pages)
def zbZ(h:Hp)(n:Int):Bool:=!(newB h n&&zdk h)
def zeV(h:Hp)(n:Int):Int:=if newB h n then zaz h.pages 1 else h.bump
def zbL(h:Hp)(n:Int):List Pg:=if newB h n then zcl h.pages (zaz h.pages 1) h.space else h.pages
def zgC(ps:List Pg)(j:Nat)(n:Int):List Pg:=ps.set j ⟨(ps.getD j Pg.zero).kind,(ps.getD j Pg.zero).space,(ps.getD j Pg.zero).used+n,(ps.getD j Pg.zero).pins⟩
def zkc(h:Hp)(n:Int):Hp:={ h with pages:=zgC (zbL h n) (zeV h n).toNat n,bump:=zeV h n }
def zkd(h:Hp)(n:Int):Int:=4096+zeV h n*h.pw+((zbL h n).getD (zeV h n).toNat Pg.zero).used
def zg9(h:Hp)(k:Int):Bool:=decide (¬(zaz h.pages k<0\/zfV h.pw h.np<zbE h.pages+k))
def zmH(h:Hp)(n k:Int):Hp:={ h with pages:=zfe h.pw h.np h.pages (zaz h.pages k) h.space n }
def zmI(h:Hp)(k:Int):Int:=4096+zaz h.pages k*h.pw
theorem zvc{pw np:Int}{ps:List Pg}{i sp n:Int}(h:1<=zau pw np n/\0<=sp/\sp<=1):zfe pw np ps i sp n=zf5 ps i (zau pw np n) ⟨2,sp,n,0⟩ ⟨3,sp,0,0⟩/\zkG pw np ps i sp n=zjp ps i (zau pw np n):=by
 unfold zfe zkG;rw [if_pos h,if_pos h];exact ⟨rfl,rfl⟩
theorem small_spec{h:Hp}{n:Int}(h1:okH h=true)(hok:zbZ h n=true):
 ∃ j:Nat,∃ x:Pg,zeV h n=j/\j<h.pages.length/\(zbL h n).length=h.pages.length/\(zbL h n)[j]?=some x/\x.kind=1/\0<=x.used/\x.used<=h.pw/\x.space=h.space /\
  ((newB h n=true/\zbL h n=h.pages.set j ⟨1,h.space,0,0⟩/\x=⟨1,h.space,0,0⟩/\zhX h.pages (zaz h.pages 1) h.space=0/\∃ y,h.pages[j]?=some y/\y.kind=0)\/(newB h n=false/\zbL h n=h.pages/\x.used+n<=h.pw)):=by
 obtain ⟨g1,g2,g3,g4,g5,g6,g7⟩:=zaq h1;obtain ⟨k1,k2,-,k4,k5⟩:=zai g1;unfold zbZ at hok;cases hn:newB h n
 · have hd:=qa3 hn;have hb0:0<=h.bump:=by omega
   have hbb:=qar g6;have hbs:h.bump<h.pages.length/\(h.pages.getD h.bump.toNat Pg.zero).kind=1:=by
    rcases hbb with h | h
    · omega
    · exact ⟨h.2.1,h.2.2⟩
   have hx:h.pages[h.bump.toNat]?=some (h.pages[h.bump.toNat]'(by omega)):=qap _
   have hgd:=zav hx;have hmem:=zbx _ _ _ _ g7 _ (qaK hx);rw [hgd]at hbs;have hbp:zjb h=h.pages[h.bump.toNat]'(by omega):=hgd
   rw [hbp]at hd;refine ⟨h.bump.toNat,h.pages[h.bump.toNat]'(by omega),by unfold zeV;rw [hn];simp;omega,by omega,by unfold zbL;rw [hn];rfl,by unfold zbL;rw [hn];exact hx,hbs.2,(hmem.2.2.2.2.2.1 hbs.2).1,(hmem.2.2.2.2.2.1 hbs.2).2,?_,Or.inr ⟨rfl,by unfold zbL;rw [hn];rfl,by omega⟩⟩
   have:¬¬(h.pages[h.bump.toNat]'(by omega)).space=h.space:=fun c=>hd (Or.inr (Or.inl c))
   exact Classical.not_not.1 this
 · rw [hn,qaS]at hok;have hf:zdk h=false:=by simpa using hok
   have hd:=qa3 hf;have hF:0<=zaz h.pages 1:=by omega
   obtain ⟨-,f1,f2⟩:=zdf hF;obtain ⟨y,hy,hy0⟩:=f2 (zaz h.pages 1).toNat (by omega) (by omega)
   have hlt:(zaz h.pages 1).toNat<h.pages.length:=(qak.1 hy).1;have hfree:zct h.pages (zaz h.pages 1).toNat 1=true:=by
    have:=zce (ps:=h.pages) (i:=(zaz h.pages 1).toNat) (k:=0) (x:=y) (by rw [qa4];exact hy)
    rw [zcM,hy0]at this;simpa using this
   obtain ⟨t1,t2⟩:=zj7 (x:=⟨1,h.space,0,0⟩) (y:=Pg.zero) hlt (show (zaz h.pages 1).toNat+1<=h.pages.length by omega) hfree
   have eF:(((zaz h.pages 1).toNat:Nat):Int)=zaz h.pages 1:=by omega
   rw [eF]at t1 t2;have hps:zbL h n=h.pages.set (zaz h.pages 1).toNat ⟨1,h.space,0,0⟩:=by
    unfold zbL zcl;rw [hn,if_pos rfl,if_pos ⟨g4,g5⟩];rw [show ((1:Nat):Int)=1 from rfl]at t1
    rw [t1];apply qbr
    intro i;have hl:(put h.pages (zaz h.pages 1).toNat 1 Pg.zero).length=h.pages.length:=zeo (by omega)
    rw [qaW,qaW,hl];split
    · rfl
    · rw [zdo (by omega) (by omega)]
   have hpe:zhX h.pages (zaz h.pages 1) h.space=0:=by
    unfold zhX;rw [if_pos ⟨g4,g5⟩];exact t2
   refine ⟨(zaz h.pages 1).toNat,⟨1,h.space,0,0⟩,by unfold zeV;rw [hn];exact eF.symm,hlt,by rw [hps,List.length_set],by rw [hps,qaW];simp [hlt],rfl,by simp,by simp only;omega,rfl,Or.inl ⟨rfl,hps,rfl,hpe,y,hy,hy0⟩⟩
theorem ze8(pw np n:Int):zau pw np n<=4:=by
 unfold zau zd9;repeat' split
 all_goals omega
theorem znN(pw np n:Int): -1<=zau pw np n:=by
 unfold zau zd9;repeat' split
 all_goals omega
def zi3(h:Hp)(k n m:Int):Bool:=okH h&&zjA h.pw h.np k n m
def zso(h:Hp)(k n m:Int):Bool:=decide (0<zau h.pw h.np (zaO k n m))
def znK(h:Hp)(k n m:Int):Bool:=if zso h k n m then zg9 h (zau h.pw h.np (zaO k n m)) else zbZ h (zaO k n m)
def zkE(h:Hp)(k n m:Int):Hp:=if zso h k n m then zmH h (zaO k n m) (zau h.pw h.np (zaO k n m)) else zkc h (zaO k n m)
def znL(h:Hp)(k n m:Int):Int:=if zso h k n m then zmI h (zau h.pw h.np (zaO k n m)) else zkd h (zaO k n m)
def zc2(h:Hp)(k n m:Int):Int:=if zi3 h k n m then (if znK h k n m then 0 else 3) else 1
def zho(h:Hp)(k n m:Int):Hp:=if zc2 h k n m=0 then zkI (zkE h k n m) (znL h k n m) k n m else Hp.zero
def zje(h:Hp)(k n m:Int):Int:=if zc2 h k n m=0 then znL h k n m else 0
structure Wk where
 h:Hp
 old:List Int
 taken:List Int
 queue:List Int
 sc:Int
 r0:Int
 r1:Int
 r2:Int
 r3:Int
 r4:Int
 r5:Int
def Wk.zero:Wk:=⟨Hp.zero,[],[],[],0,0,0,0,0,0,0⟩
def zep(x:Wk)(i:Int):Bool:=match x.h.pages[i.toNat]? with
 | some g=>decide (0<=i)&&(decide (g.kind=1) && !decide (g.space=x.h.space) && !decide (i∈x.taken))
 | none=>false
def zdu(x:Wk)(a:Int):Wk:={ x with queue:=x.queue++[a],r1:=wrap64 (x.r1+1) }
theorem zne{ps:List Pg}{sp:Int}(h0:0<=sp)(h1:sp<=1)(hF:0<=zaz ps 1):
 (zaz ps 1).toNat<ps.length/\zcl ps (zaz ps 1) sp=ps.set (zaz ps 1).toNat ⟨1,sp,0,0⟩/\∃ y,ps[(zaz ps 1).toNat]?=some y/\y.kind=0:=by
 obtain ⟨-,f1,f2⟩:=zdf hF;obtain ⟨y,hy,hy0⟩:=f2 (zaz ps 1).toNat (by omega) (by omega)
 have hlt:(zaz ps 1).toNat<ps.length:=(qak.1 hy).1;have hfree:zct ps (zaz ps 1).toNat 1=true:=by
  have:=zce (ps:=ps) (i:=(zaz ps 1).toNat) (k:=0) (x:=y) (by rw [qa4];exact hy)
  rw [zcM,hy0]at this;simpa using this
 obtain ⟨t1,t2⟩:=zj7 (x:=⟨1,sp,0,0⟩) (y:=Pg.zero) hlt (show (zaz ps 1).toNat+1<=ps.length by omega) hfree
 have eF:(((zaz ps 1).toNat:Nat):Int)=zaz ps 1:=by omega
 rw [eF]at t1 t2;refine ⟨hlt,?_,y,hy,hy0⟩;unfold zcl;rw [if_pos ⟨h0,h1⟩];rw [show ((1:Nat):Int)=1 from rfl]at t1
 rw [t1];apply qbr
 intro i;have hl:(put ps (zaz ps 1).toNat 1 Pg.zero).length=ps.length:=zeo (by omega)
 rw [qaW,qaW,hl];split
 · rfl
 · rw [zdo (by omega) (by omega)]
def zdm(x:Wk)(n:Int):Bool:=match x.taken.getLast? with | some l=>decide ((x.h.pages.getD l.toNat Pg.zero).used+n<=x.h.pw) | none=>false
def plJ(x:Wk)(n:Int):Int:=if zdm x n then x.taken.getLast?.getD (-1) else zaz x.h.pages 1
def plB(x:Wk)(n:Int):Bool:=zdm x n || decide (0<=zaz x.h.pages 1)
def plPs(x:Wk)(n:Int):List Pg:=if zdm x n then x.h.pages else zcl x.h.pages (zaz x.h.pages 1) (1-x.h.space)
def plT(x:Wk)(n:Int):List Int:=if zdm x n then x.taken else x.taken++[zaz x.h.pages 1]
def plW(x:Wk)(n:Int):Wk:={ x with h:={ x.h with pages:=zgC (plPs x n) (plJ x n).toNat n },taken:=plT x n }
def plA(x:Wk)(n:Int):Int:=4096+plJ x n*x.h.pw+((plPs x n).getD (plJ x n).toNat Pg.zero).used
structure PlOK (x:Wk):Prop where
 pw0:16<=x.h.pw
 pw1:x.h.pw<=64
 np0:1<=x.h.pages.length
 np1:x.h.pages.length<=64
 sp0:0<=x.h.space
 sp1:x.h.space<=1
 tk:x.taken.length<=1000
 last:∀ l,x.taken.getLast?=some l->∃ k:Nat,l=k/\∃ g,x.h.pages[k]?=some g/\0<=g.used/\g.used<=x.h.pw
theorem zfC{x:Wk}{n:Int}(hx:PlOK x)(hb:plB x n=true):
 ∃ j:Nat,∃ y:Pg,plJ x n=j/\j<x.h.pages.length/\(plPs x n).length=x.h.pages.length/\(plPs x n)[j]?=some y/\0<=y.used/\y.used<=x.h.pw /\
  ((zdm x n=true/\plPs x n=x.h.pages/\x.taken.getLast?=some (j:Int)/\y.used+n<=x.h.pw)\/(zdm x n=false/\zaz x.h.pages 1=j/\plPs x n=x.h.pages.set j ⟨1,1-x.h.space,0,0⟩/\y=⟨1,1-x.h.space,0,0⟩/\∃ z,x.h.pages[j]?=some z/\z.kind=0)):=by
 cases hr:zdm x n
 · unfold plB at hb;rw [hr,Bool.false_or]at hb;have hF:=qar hb;have s0:=hx.sp0;have s1:=hx.sp1;have p0:=hx.pw0;obtain ⟨f1,f2,z,f3,f4⟩:=zne (ps:=x.h.pages) (sp:=1-x.h.space) (by omega) (by omega) hF
   have e1:plPs x n=x.h.pages.set (zaz x.h.pages 1).toNat ⟨1,1-x.h.space,0,0⟩:=by unfold plPs;rw [hr];exact f2
   refine ⟨(zaz x.h.pages 1).toNat,⟨1,1-x.h.space,0,0⟩,by unfold plJ;rw [hr];simp;omega,f1,by rw [e1,List.length_set],by rw [e1,qaW,if_pos rfl,if_pos f1],by simp,by simp only;omega,Or.inr ⟨rfl,by omega,e1,rfl,z,f3,f4⟩⟩
 · have h1:=hr;unfold zdm at h1;cases hl:x.taken.getLast? with
   | none=>rw [hl]at h1;cases h1
   | some l=>
    rw [hl]at h1;obtain ⟨k,rfl,g,g1,g2,g3⟩:=hx.last l hl;have hk:=(qak.1 g1).1;have h2:=qar h1;rw [qad,zav g1]at h2;have e1:plPs x n=x.h.pages:=by unfold plPs;rw [hr];rfl
    exact ⟨k,g,by unfold plJ;rw [hr,hl];rfl,hk,by rw [e1],by rw [e1];exact g1,g2,g3,Or.inl ⟨rfl,e1,rfl,h2⟩⟩
def evWd(x:Wk)(a:Int):Int:=zas x.h.words a
def evI(x:Wk)(a:Int):Int:=ofI x.h.pw x.h.np a
def evN(x:Wk)(a:Int):Int:=zaO (decK (evWd x a).toNat) (decN (evWd x a).toNat) (decM (evWd x a).toNat)
def zhi(x:Wk)(a:Int):Bool:=decide ((x.h.pages.getD (evI x a).toNat Pg.zero).kind=2)
def spc(ps:List Pg)(i k:Nat)(sp:Int):List Pg:=ps.mapIdx fun j y=>if i<=j/\j<k then ⟨y.kind,sp,y.used,y.pins⟩ else y
def zb4(ps:List Pg)(i:Nat):Nat:=i+1+((ps.drop (i+1)).takeWhile fun y=>decide (y.kind=3)).length
def zcd(x:Wk)(i:Nat):Wk:={ x with h:={ x.h with pages:=spc x.h.pages i (zb4 x.h.pages i) (1-x.h.space) } }
def zk8(x:Wk)(a:Int):List Int:=zaF (zes x.h.words (plA x (evN x a)) a (evN x a)) a [fwdV (plA x (evN x a))]
def zbq(x:Wk)(a:Int):Wk:={ plW x (evN x a) with h:={ (plW x (evN x a)).h with words:=zk8 x a },queue:=x.queue++[plA x (evN x a)],r0:=wrap64 (x.r0+1) }
def evC(x:Wk)(a:Int):Nat :=
 if a=0\/a∈x.queue then 0 else if ¬a∈x.old then 1 else if okT (evWd x a).toNat then 2
 else if ¬ofE x.h.pw x.h.np a=0\/(x.h.pages.length:Int)<=evI x a then 3
 else if zep x (evI x a) then 4 else if zhi x a then 5 else if plB x (evN x a) then 7 else 6
def evE(x:Wk)(a:Int):Int:=match evC x a with | 1=>19 | 3=>19 | 6=>3 | _=>0
def evA(x:Wk)(a:Int):Int:=match evC x a with | 0=>a | 2=>tgtV (evWd x a).toNat | 4=>a | 5=>a | 7=>plA x (evN x a) | _=>0
def evW(x:Wk)(a:Int):Wk:=match evC x a with | 0=>x | 2=>x | 4=>zdu x a | 5=>zdu (zcd x (evI x a).toNat) a | 7=>zbq x a | _=>Wk.zero
theorem zfb{xs:List Int}(h:WB xs)(a:Int):∃ k:Nat,zas xs a=k/\k<18446744073709551616:=by
 have hx:0<=zas xs a/\zas xs a<18446744073709551616:=by
  unfold zas;split
  · rw [qay];cases hg:xs[(a-4096).toNat]? with
    | none=>simp
    | some v=>simpa using h v (qaK hg)
  · simp
 exact ⟨(zas xs a).toNat,by omega,by omega⟩
theorem zvt(x:Nat):0<=decM x/\decM x<4294967296:=by
 unfold decM;split
 · unfold dM;have:x / 65536 % 4294967296<4294967296:=Nat.mod_lt _ (by omega);omega
 · omega
theorem evN_bd(x:Wk)(a:Int):0<=evN x a/\evN x a<=1000:=by
 unfold evN zaO;split
 · rename_i h;unfold zaA at h;have:=qar h
   omega
 · omega
theorem zuE{x:Wk}{n:Int}(hx:PlOK x)(hb:plB x n=true):0<=plA x n/\plA x n<18446744073709551616:=by
 obtain ⟨j,y,s1,s2,s3,s4,s5,s6,-⟩:=zfC hx hb;have k1:=hx.pw0;have k2:=hx.pw1;have k3:=hx.np1;have hJ0:0<=(j:Int)*x.h.pw:=qa0 (by omega) (by omega)
 have hJ1:(j:Int)*x.h.pw<=64*64:=qbU (by omega) k2 (by omega) (by omega)
 unfold plA;rw [s1,qad,zav s4];omega
theorem zsq(xs:List Int)(t f n:Int):(zes xs t f n).length<=xs.length:=by
 unfold zes;split
 · simp
 · split
   · rename_i h0 h;have h1:=qar h.1;rw [zcH (by rw [qau,qaG];omega)]
     exact qam _
   · simp
theorem wb_move{xs:List Int}(h:WB xs)(t f n:Int):WB (zes xs t f n):=by
 unfold zes;split
 · exact WB.nil
 · split
   · exact zoy h (fun v hv=>h v (qcr (qcn hv)))
   · exact WB.nil
theorem zw9{x:Wk}{a:Int}(hx:PlOK x)(hb:plB x (evN x a)=true)(h:WB x.h.words):WB (zbq x a).h.words:=by
 show WB (zaF (zes x.h.words _ a _) a [fwdV _])
 refine zfv (wb_move h _ _ _) (fun v hv=>?_)
 simp only [qaw]at hv;subst hv;have:=zuE hx hb
 unfold fwdV;split <;> omega
theorem zgE{α:Type}{p:α->Bool}:∀ (L:List α) (n:Nat),n<=L.length->(∀ j y,j<n->L[j]?=some y->p y=true)->(∀ y,L[n]?=some y->p y=false)->(L.takeWhile p).length=n
 | [],n,hn,_,_=>by simp at hn;subst hn;rfl
 | y::r,0,_,_,h=>by rw [qcu,h y rfl];rfl
 | y::r,n+1,hn,ha,h=>by
  rw [qcu,ha 0 y (by omega) rfl]
  simp only [if_true,qaM];rw [zgE r n (by simpa using hn) (fun j z hj hz=>ha (j+1) z (by omega) (by simpa using hz)) (fun z hz=>h z (by simpa using hz))]
theorem zsX{ps:List Pg}{i k:Nat}(h1:i+1<=k)(h2:k<=ps.length)(h3:∀ l y,i<l->l<k->ps[l]?=some y->y.kind=3)(h4:∀ y,ps[k]?=some y->¬y.kind=3):zb4 ps i=k:=by
 unfold zb4;rw [zgE (ps.drop (i+1)) (k-(i+1)) (by rw [qaG];omega) (fun j y hj hy=>qac (h3 (i+1+j) y (by omega) (by omega) (by rw [qa5]at hy;exact hy))) (fun y hy=>qaj (h4 y (by rw [qa5]at hy;rw [show i+1+(k-(i+1))=k by omega]at hy;exact hy)))]
 omega
theorem zur(ps:List Pg)(i k:Nat)(sp:Int):(spc ps i k sp).length=ps.length:=by unfold spc;simp
theorem zhW{ps:List Pg}{i k j:Nat}{sp:Int}{y:Pg}(h:ps[j]?=some y):(spc ps i k sp)[j]?=some (if i<=j/\j<k then ⟨y.kind,sp,y.used,y.pins⟩ else y):=by
 unfold spc;rw [qct,h];rfl
theorem znc{ps:List Pg}{i k j:Nat}{sp:Int}(h:ps[j]?=none):(spc ps i k sp)[j]?=none:=by
 unfold spc;rw [qct,h];rfl
theorem zsc{ps:List Pg}{i k:Nat}{sp:Int}{y:Pg}(hi:i<=k)(h:ps[k]?=some y):(spc ps i k sp).set k ⟨y.kind,sp,y.used,y.pins⟩=spc ps i (k+1) sp:=by
 apply qbr
 intro j;rw [qaW,zur];have hk:=(qak.1 h).1;by_cases e:k=j
 · subst e;rw [if_pos rfl,if_pos hk,zhW h,if_pos ⟨hi,by omega⟩]
 · rw [if_neg e];cases hj:ps[j]? with
   | none=>rw [znc hj,znc hj]
   | some z=>
    rw [zhW hj,zhW hj];by_cases c:i<=j/\j<k
    · rw [if_pos c,if_pos ⟨c.1,by omega⟩]
    · rw [if_neg c,if_neg (by omega)]
theorem zuq{ps:List Pg}{i:Nat}{sp:Int}:spc ps i i sp=ps:=by
 apply qbr
 intro j;cases hj:ps[j]? with
 | none=>rw [znc hj]
 | some z=>rw [zhW hj,if_neg (by omega)]
theorem zte{pw np a:Int}(h:ofE pw np a=0):0<=ofI pw np a:=by
 cases hv:confB pw np with
 | false=>have:=(zwj (a:=a) hv).2.2;omega
 | true=>
  cases hi:inAr pw np a with
  | false=>have:=(ze5 hv hi).2.2;omega
  | true=>
   obtain ⟨h1,-,-⟩:=zgO hv hi;have h2:=zai hv;unfold inAr at hi;have h3:=qar hi;rw [h1];exact qbP (by omega) (by omega)
def evH(x:Wk)(a:Int):Hd:=⟨decK (evWd x a).toNat,decN (evWd x a).toNat,decM (evWd x a).toNat⟩
structure FwOK (x:Wk):Prop where
 pl:PlOK x
 wl:x.h.words.length<=100000
 ql:x.queue.length<=1000000
def zc9(x:Wk)(A:Int):Wk:={ evW x (zas x.h.words A) with h:={ (evW x (zas x.h.words A)).h with words:=zaF (evW x (zas x.h.words A)).h.words A [evA x (zas x.h.words A)] } }
def stGo:Wk->Int->List Int->Wk×Int
 | x,_,[]=>(x,0)
 | x,A,i::r=>if evE x (zas x.h.words (A+1+i))=0 then stGo (zc9 x (A+1+i)) A r else (Wk.zero,evE x (zas x.h.words (A+1+i)))
def StOK:Wk->Int->List Int->Prop
 | _,_,[]=>True
 | x,A,i::r=>FwOK x/\(evE x (zas x.h.words (A+1+i))=0->StOK (zc9 x (A+1+i)) A r)
def stL(x:Wk)(A:Int):List Int:=zeN (evH x A).k (evH x A).n (evH x A).m
def stW(x:Wk)(A:Int):Wk:={ (stGo x A (stL x A)).1 with sc:=wrap64 ((stGo x A (stL x A)).1.sc+1),r5:=wrap64 (wrap64 ((stGo x A (stL x A)).1.r5+1)+(stL x A).length) }
def stE(x:Wk)(A:Int):Int:=(stGo x A (stL x A)).2
theorem stL_bd{x:Wk}{A i:Int}(h:i∈stL x A):0<=i/\i<=1000:=by
 unfold stL zeN at h;split at h
 · rename_i hv;unfold zcB at h;have h1:=(qbG.1 h).1;obtain ⟨j,hj,rfl⟩:=qax.1 h1;have h2:=qbJ.1 hj;unfold zaA at hv;have h3:=qar hv;have h4:Int.ofNat j=(j:Int):=rfl
   omega
 · cases h
theorem evA_bd{x:Wk}{a:Int}(hx:PlOK x)(h0:0<=a)(h1:a<18446744073709551616):0<=evA x a/\evA x a<18446744073709551616:=by
 unfold evA;split
 · exact ⟨h0,h1⟩
 · unfold tgtV;split
   · rename_i h;unfold okT at h;rw [qae]at h;have h2:=qar h.2;omega
   · omega
 · exact ⟨h0,h1⟩
 · exact ⟨h0,h1⟩
 · rename_i h;refine zuE hx ?_;unfold evC at h;split at h
   · omega
   split at h
   · omega
   split at h
   · omega
   split at h
   · omega
   split at h
   · omega
   split at h
   · omega
   split at h
   · assumption
   · omega
 · omega
theorem wb_next{x:Wk}{A:Int}(hx:PlOK x)(hw:WB x.h.words)(hy:WB (evW x (zas x.h.words A)).h.words):WB (zc9 x A).h.words:=by
 obtain ⟨k,h1,h2⟩:=zfb hw A;refine zfv hy (fun v hv=>?_)
 simp only [qaw]at hv;subst hv;exact evA_bd hx (by omega) (by omega)
theorem evW_wl{x:Wk}{n:Nat}(h:x.h.words.length<=n)(a:Int):(evW x a).h.words.length<=n:=by
 unfold evW;split
 · exact h
 · exact h
 · exact h
 · exact h
 · show (zaF (zes x.h.words _ a _) a [_]).length<=n
   unfold zaF;split
   · rename_i hk;have h1:=qar hk;rw [zcH (by omega)]
     exact qaD (zsq _ _ _ _) h
   · simp
 · exact qa8 _
def allV:Nat->Wk->Wk×Int
 | 0,x=>(x,0)
 | f+1,x=>match x.queue[x.sc.toNat]? with
  | none=>(x,0)
  | some A=>if stE x A=0 then allV f (stW x A) else (Wk.zero,stE x A)
def zvK:Nat->Wk->Prop
 | 0,_=>False
 | f+1,x=>∃ k:Nat,x.sc=k/\k<=1000000/\(x.queue[k]?=none\/∃ A,x.queue[k]?=some A/\0<=A/\A<=1000000/\x.h.words.length<=100000/\StOK x A (stL x A)/\(stE x A=0->(stW x A).sc=((k+1:Nat):Int)/\zvK f (stW x A)))
theorem zsN{f:Nat}{x:Wk}{k:Nat}(hk:x.sc=k)(h:x.queue[k]?=none):allV (f+1) x=(x,0):=by
 unfold allV;rw [hk,qad,h]
theorem zvC{f:Nat}{x:Wk}{k:Nat}{A:Int}(hk:x.sc=k)(h:x.queue[k]?=some A):allV (f+1) x=if stE x A=0 then allV f (stW x A) else (Wk.zero,stE x A):=by
 rw [allV,hk,qad,h]
def zbI(sp:Int)(l:List Pg):Bool:=l.all fun t=>decide (t.kind=3/\t.space=sp)
def zeR(pw np:Int)(ps:List Pg):Nat->Int
 | 0=>0
 | i+1=>if (ps.getD i Pg.zero).kind=2 then max 0 (zau pw np (ps.getD i Pg.zero).used-1) else max 0 (zeR pw np ps i-1)
theorem zjQ(sp:Int):∀ (l:List Pg) (m:Nat),m<=zf6 sp l↔(m<=l.length/\zbI sp (l.take m)=true)
 | [],m=>by
  rw [zf6];constructor
  · intro h;obtain rfl:m=0:=by omega
    exact ⟨qam _,rfl⟩
  · rintro ⟨h,-⟩;exact h
 | x::r,0=>by simp [zbI]
 | x::r,m+1=>by
  rw [zf6,qci,qaM];have ih:=zjQ sp r m;have e:zbI sp (x::r.take m)=(decide (x.kind=3/\x.space=sp)&&zbI sp (r.take m)):=rfl
  rw [e,qae,qaa];by_cases h:x.kind=3/\x.space=sp
  · rw [if_pos h];constructor
    · intro a;obtain ⟨a1,a2⟩:=ih.1 (by omega)
      exact ⟨by omega,h,a2⟩
    · rintro ⟨a1,-,a2⟩;have:=ih.2 ⟨by omega,a2⟩
      omega
  · rw [if_neg h];constructor
    · intro a;omega
    · rintro ⟨-,a,-⟩;exact absurd a h
theorem zsG{pw np:Int}{ps:List Pg}{i:Nat}{x:Pg}(hx:ps[i]?=some x){r:List Pg}{d:Int}(h:zbT pw np x r (zeR pw np ps i)=some d):d=zeR pw np ps (i+1):=by
 rw [zeR,zav hx];unfold zbT at h;split at h
 · cases h
 · split at h
   · rename_i k0;rw [if_neg (by omega)]
     split at h
     · exact (Option.some.inj h).symm
     · cases h
   · split at h
     · rename_i k1;rw [if_neg (by omega)]
       split at h
       · cases h
       · exact (Option.some.inj h).symm
     · split at h
       · rename_i k2;rw [if_pos k2];split at h
         · cases h
         · exact (Option.some.inj h).symm
       · rename_i k2;rw [if_neg k2];split at h
         · split at h
           · exact (Option.some.inj h).symm
           · cases h
         · cases h
theorem zkm{pw np:Int}{ps:List Pg}(h:zaG pw np ps 0=true):∀ i,i<=ps.length->zaG pw np (ps.drop i) (zeR pw np ps i)=true
 | 0,_=>by rw [qb5];exact h
 | i+1,hi=>by
  have ih:=zkm h i (by omega)
  have hx:ps[i]?=some (ps[i]'(by omega)):=qap _
  rw [qaU (by omega),zaG]at ih
  cases hs:zbT pw np (ps[i]'(by omega)) (ps.drop (i+1)) (zeR pw np ps i) with
  | none=>rw [hs]at ih;cases ih
  | some d=>rw [hs]at ih;rw [<-zsG hx hs];exact ih
def osz(h:Hp)(a:Int):Int:=(atH h a).n+1
def zgI(h:Hp)(g:Pg):Int:=if g.kind=2 then zau h.pw h.np g.used else 1
theorem zg3{pw np n:Int}(h:1<=zau pw np n):n<=zau pw np n*pw/\zau pw np n<=4/\confB pw np=true/\1<=n:=by
 by_cases hc:confB pw np=true/\1<=n
 · rw [zgg hc.1 hc.2]at h ⊢
   refine ⟨?_,?_,hc.1,hc.2⟩
   · unfold zd9 at h ⊢
     repeat' split
     all_goals first | omega | (exfalso;simp_all)
   · unfold zd9 at h ⊢
     repeat' split
     all_goals omega
 · rw [zgh (by
    by_cases h1:confB pw np=true
    · right;have:¬1<=n:=fun h2=>hc ⟨h1,h2⟩;omega
    · left;simpa using h1)]at h
   omega
theorem zgj{pw np:Int}{ps:List Pg}(h:zaG pw np ps 0=true){i:Nat}{g:Pg}(hg:ps[i]?=some g)(hk:g.kind=2):
 1<=zau pw np g.used/\(i:Int)+zau pw np g.used<=ps.length/\∀ t:Nat,i<t->(t:Int)<i+zau pw np g.used->∃ y,ps[t]?=some y/\y.kind=3/\y.space=g.space:=by
 have hi:i<ps.length:=(qak.1 hg).1;have h1:=zkm h i (by omega)
 have e:ps.drop i=g::ps.drop (i+1):=by
  obtain ⟨hlt,rfl⟩:=qak.1 hg;exact qaU hlt
 rw [e,zaG]at h1;have h2:¬(zau pw np g.used<1\/(zf6 g.space (ps.drop (i+1)):Int)<zau pw np g.used-1):=by
  intro hb;have:zbT pw np g (ps.drop (i+1)) (zeR pw np ps i)=none:=by
   unfold zbT;split
   · rfl
   · rw [if_neg (by omega:¬g.kind=0),if_neg (by omega:¬g.kind=1)]
  rw [this]at h1;cases h1
 have h3:(zau pw np g.used-1).toNat<=zf6 g.space (ps.drop (i+1)):=by omega
 obtain ⟨h4,h5⟩:=(zjQ _ _ _).1 h3;rw [qaG]at h4;refine ⟨by omega,by omega,fun t ht ht2=>?_⟩
 have h6:t<ps.length:=by omega
 refine ⟨ps[t],qap h6,?_⟩;unfold zbI at h5;rw [qaO]at h5;have h7:=h5 ps[t] (by
  rw [List.mem_iff_getElem?];refine ⟨t-(i+1),?_⟩;rw [qa6,if_pos (by omega),qa5]
  rw [show i+1+(t-(i+1))=t from by omega,qap h6])
 exact qar h7
structure Begins (h:Hp) (a:Int) (i j:Nat) (g:Pg):Prop where
 ok:okH h=true
 oi:ofI h.pw h.np a=i
 il:i<h.pages.length
 jl:(j:Int)<h.pw
 ad:a=4096+i*h.pw+j
 pg:h.pages[i]?=some g
 od:okD (zaw h a)=true
 hd:atH h a=hdOf (zaw h a)
 sz:osz h a=dN (zaw h a)+1
 kd:(g.kind=1/\j+osz h a<=g.used/\g.used<=h.pw)\/(g.kind=2/\j=0/\osz h a=g.used/\1<=zau h.pw h.np g.used)
 wl:a+osz h a<=4096+h.words.length
theorem zfX{h:Hp}{a:Int}(e:atE h a=0):∃ i j g,Begins h a i j g:=by
 have h1:okH h=true:=by
  cases h1:okH h
  · unfold atE at e;rw [h1]at e;simp at e
  · rfl
 have h5:ofE h.pw h.np a=0:=by
  by_cases h5:ofE h.pw h.np a=0
  · exact h5
  · unfold atE at e;rw [if_pos h1,if_neg h5]at e;cases e
 have h6:atB h a=true:=by
  cases h6:atB h a
  · unfold atE at e;rw [if_pos h1,if_pos h5,h6]at e;simp at e
  · rfl
 obtain ⟨hin,⟨i,j,e1,e2,hi,hj,ha⟩,t,ht,htl⟩:=zuR h1 h5;have hg:h.pages[i]?=some h.pages[i]:=qap hi
 have hp:zb9 h a=h.pages[i]:=by unfold zb9;rw [e1,qad];exact zav hg
 have hh:atH h a=hdOf (zaw h a):=by unfold atH;rw [if_pos e]
 have hz:osz h a=dN (zaw h a)+1:=by unfold osz;rw [hh];rfl
 unfold atB at h6;rw [hp,e2]at h6;simp only [qae,qaa]at h6;obtain ⟨⟨⟨k1,k2⟩,k3⟩,k4⟩:=h6;obtain ⟨c1,c2,c3,c4,c5,c6,c7⟩:=zaq h1;obtain ⟨p1,p2,p3,p4,p5⟩:=zai c1;have hm:=zbx _ _ _ _ c7 _ (qaK hg);have pp:=zaY (p:=i) c1 (by omega) (by omega)
 have kd:(h.pages[i].kind=1/\j+osz h a<=h.pages[i].used/\h.pages[i].used<=h.pw)\/(h.pages[i].kind=2/\j=0/\osz h a=h.pages[i].used/\1<=zau h.pw h.np h.pages[i].used):=by
  rcases k1 with k1 | k1
  · left
    rw [if_pos k1]at k4;have:=qar k4
    have h9:=hm.2.2.2.2.2.1 k1;refine ⟨k1,by rw [hz];omega,h9.2⟩
  · right
    rw [if_neg (by omega)]at k4
    obtain ⟨m1,m2⟩:=qar k4;refine ⟨k1,by omega,by rw [hz];exact m2,hm.2.2.2.2.2.2.1 k1⟩
 refine ⟨i,j,h.pages[i],h1,e1,hi,hj,ha,hg,k3,hh,hz,kd,?_⟩;rcases kd with ⟨k,l,m⟩ | ⟨k,l,m,n⟩
 · omega
 · obtain ⟨t1,t2,t3⟩:=zgj c7 hg k;obtain ⟨f1,f2,-⟩:=zg3 n;have:(i:Int)*h.pw+zau h.pw h.np h.pages[i].used*h.pw<=h.np*h.pw:=by
    rw [<-qa9];exact qaR (by omega) (by omega)
   omega
theorem Begins.pos{h:Hp}{a:Int}{i j:Nat}{g:Pg}(b:Begins h a i j g):1<=osz h a/\4096<=a:=by
 obtain ⟨c1,c2,c3,c4,c5,c6,c7⟩:=zaq b.ok;obtain ⟨p1,p2,p3,p4,p5⟩:=zai c1;have pp:=zaY (p:=i) c1 (by omega) (by have:=b.il;omega)
 have:=b.sz
 have:=b.ad
 omega
theorem Begins.upto{h:Hp}{a:Int}{i j:Nat}{g:Pg}(b:Begins h a i j g):1<=zgI h g/\4096+(i:Int)*h.pw<=a/\a+osz h a<=4096+((i:Int)+zgI h g)*h.pw/\∀ t:Nat,i<t->(t:Int)<i+zgI h g->∃ y,h.pages[t]?=some y/\y.kind=3:=by
 obtain ⟨c1,c2,c3,c4,c5,c6,c7⟩:=zaq b.ok;obtain ⟨p1,p2,p3,p4,p5⟩:=zai c1;have ha:=b.ad;rw [qa9];rcases b.kd with ⟨k,l,m⟩ | ⟨k,l,m,n⟩
 · have e:zgI h g=1:=by unfold zgI;rw [if_neg (by omega)]
   rw [e,qbj];exact ⟨by omega,by omega,by omega,fun t h1 h2=>by omega⟩
 · have e:zgI h g=zau h.pw h.np g.used:=by unfold zgI;rw [if_pos k]
   obtain ⟨f1,f2,-⟩:=zg3 n;obtain ⟨t1,t2,t3⟩:=zgj c7 b.pg k;rw [e];refine ⟨by omega,by omega,by omega,fun t h1 h2=>?_⟩
   obtain ⟨y,h3,h4,-⟩:=t3 t h1 h2;exact ⟨y,h3,h4⟩
theorem zpY{h:Hp}{a b:Int}{i j k l:Nat}{g f:Pg}(ha:Begins h a i j g)(hb:Begins h b k l f)(hik:i<k):a+osz h a<=b:=by
 obtain ⟨u1,u2,u3,u4⟩:=ha.upto;obtain ⟨v1,v2,v3,v4⟩:=hb.upto;obtain ⟨c1,-⟩:=zaq ha.ok;obtain ⟨p1,p2,p3,p4,p5⟩:=zai c1;have h1:¬(k:Int)<i+zgI h g:=fun hlt=>by
  obtain ⟨y,y1,y2⟩:=u4 k hik hlt;rw [hb.pg]at y1;injection y1 with y1
  subst y1;rcases hb.kd with ⟨z,-⟩ | ⟨z,-⟩ <;> omega
 have:((i:Int)+zgI h g)*h.pw<=(k:Int)*h.pw:=qaR (by omega) (by omega)
 omega
theorem zaN{h:Hp}{a:Int}{i j:Nat}{g:Pg}(ha:Begins h a i j g){k:Nat}{f:Pg}(hf:h.pages[k]?=some f)(hk:f.kind=0):a+osz h a<=4096+(k:Int)*h.pw\/4096+(k:Int)*h.pw+h.pw<=a:=by
 obtain ⟨u1,u2,u3,u4⟩:=ha.upto;obtain ⟨c1,-⟩:=zaq ha.ok;obtain ⟨p1,p2,p3,p4,p5⟩:=zai c1;have hne:i≠k:=fun e=>by
  subst e;have:=ha.pg
  rw [hf]at this;injection this with this
  subst this;rcases ha.kd with ⟨z,-⟩ | ⟨z,-⟩ <;> omega
 by_cases hik:i<k
 · left
   have h1:¬(k:Int)<i+zgI h g:=fun hlt=>by
    obtain ⟨y,y1,y2⟩:=u4 k hik hlt;rw [hf]at y1;injection y1 with y1
    subst y1;omega
   have:((i:Int)+zgI h g)*h.pw<=(k:Int)*h.pw:=qaR (by omega) (by omega)
   omega
 · right
   have e1:((k:Int)+1)*h.pw<=(i:Int)*h.pw:=qaR (by omega) (by omega)
   rw [qa9,qbj]at e1;omega
theorem zj2(h:Hp)(i:Nat)(u:Nat)(hc:confB h.pw h.np=true)(hi:(i:Int)<h.np)(hu:(u:Int)<=h.pw):∀ (f o:Nat) (l:List Int),u-o<=f->zb1 h i false u o=some l ->
 (∀ a∈l,4096+(i:Int)*h.pw+o<=a)/\l.Pairwise (fun a b=>a+osz h a<=b)
 | f,o,l,hf,hl=>by
  by_cases hlt:o<u
  · have he:atE h (za2 h.pw h.np i o)=0:=by
     by_cases he:atE h (za2 h.pw h.np i o)=0
     · exact he
     · rw [zcU hlt he]at hl;cases hl
    have hA:za2 h.pw h.np i o=4096+(i:Int)*h.pw+o:=(zdy hc (by unfold inPg;exact qac (by omega))).1
    rw [zcZ hlt he]at hl;obtain ⟨l2,hl2,rfl⟩:=qbT.1 hl;match f,hf with
    | f+1,hf=>
     have hn:=(zgn he).2.2.2.2.1;obtain ⟨s1,s2⟩:=zj2 h i u hc hi hu f _ l2 (by omega) hl2
     refine ⟨fun a ha=>?_,List.pairwise_cons.2 ⟨fun b hb=>?_,s2⟩⟩
     · rcases qat.1 ha with rfl | ha
       · omega
       · have:=s1 a ha;omega
     · have:=s1 b hb
       unfold osz;omega
    | 0,hf=>omega
  · rw [zbF hlt]at hl;obtain rfl:=Option.some.inj hl;exact ⟨fun a ha=>(by cases ha),List.Pairwise.nil⟩
theorem zi1{h:Hp}(h1:okH h=true)(i:Nat)(hi:i<h.pages.length):(zaD h i).Pairwise (fun a b=>a+osz h a<=b)/\∀ a∈zaD h i,∃ j g,Begins h a i j g:=by
 obtain ⟨c1,c2,c3,c4,c5,c6,c7⟩:=zaq h1;obtain ⟨p1,p2,p3,p4,p5⟩:=zai c1;have hg:h.pages[i]?=some h.pages[i]:=qap hi
 have hpg:pgAt h i=h.pages[i]:=by unfold pgAt;rw [qad];exact zav hg
 have hm:=zbx _ _ _ _ c7 _ (qaK hg);have hno:¬((i:Int)<0\/(h.pages.length:Int)<=i):=by omega
 by_cases h3:(pgAt h i).kind=0\/(pgAt h i).kind=3
 · rw [(ze0 h1 hno h3).2];exact ⟨List.Pairwise.nil,fun a ha=>by cases ha⟩
 · rw [(zd6 h1 hno h3).2];rw [hpg]at h3;have hk:h.pages[i].kind=1\/h.pages[i].kind=2:=by omega
   cases hw:zco h i with
   | none=>exact ⟨List.Pairwise.nil,fun a ha=>by cases ha⟩
   | some l=>
    rw [Option.getD_some];unfold zco at hw;rw [hpg]at hw;have hat:=zqt h i _ _ _ 0 l (qam _) hw;have hbg:∀ a∈l,∃ j g,Begins h a i j g:=fun a ha=>by
     obtain ⟨e1,o,o1,o2,o3⟩:=hat a ha;obtain ⟨i2,j,g,hb⟩:=zfX e1;have hi2:i2=i:=by
      have h4:=hb.oi;rw [o3]at h4;cases hpi:inPg h.pw h.np i o with
      | false=>
       have h8:=(zof c1 hpi).1;have:=hb.pos.2
       omega
      | true=>
       obtain ⟨a1,a2,a3⟩:=zh9 c1 hpi;rw [(zdy c1 hpi).1,(zgO c1 a1).1,a2]at h4;omega
     subst hi2;exact ⟨j,g,hb⟩
    refine ⟨?_,hbg⟩;rcases hk with hk | hk
    · rw [show decide (h.pages[i].kind=2)=false from qaj (by omega)]at hw
      have h9:=hm.2.2.2.2.2.1 hk;exact (zj2 h i _ c1 (by omega) (by omega) _ 0 l (qam _) hw).2
    · rw [show decide (h.pages[i].kind=2)=true from qac hk]at hw
      by_cases hlt:0<h.pages[i].used.toNat
      · by_cases he:atE h (za2 h.pw h.np i ((0:Nat):Int))=0
        · rw [zdE hlt he]at hw;obtain rfl:=Option.some.inj hw;exact List.pairwise_singleton _ _
        · rw [zcU hlt he]at hw;cases hw
      · rw [zbF hlt]at hw;obtain rfl:=Option.some.inj hw;exact List.Pairwise.nil
theorem zdi{h:Hp}(h1:okH h=true):∀ k:Nat,k<=h.pages.length->(zbw h k).Pairwise (fun a b=>a+osz h a<=b)/\∀ a∈zbw h k,∃ i j g,i<k/\Begins h a i j g
 | 0,_=>by
  have:zbw h 0=[]:=rfl
  rw [this];exact ⟨List.Pairwise.nil,fun a ha=>by cases ha⟩
 | k+1,hk=>by
  obtain ⟨s1,s2⟩:=zdi h1 k (by omega)
  obtain ⟨t1,t2⟩:=zi1 h1 k (by omega)
  rw [zej];refine ⟨List.pairwise_append.2 ⟨s1,t1,fun a ha b hb=>?_⟩,fun a ha=>?_⟩
  · obtain ⟨i,j,g,hi,hba⟩:=s2 a ha;obtain ⟨l,f,hbb⟩:=t2 b hb;exact zpY hba hbb hi
  · rcases qas.1 ha with ha | ha
    · obtain ⟨i,j,g,hi,hba⟩:=s2 a ha;exact ⟨i,j,g,by omega,hba⟩
    · obtain ⟨j,g,hba⟩:=t2 a ha;exact ⟨k,j,g,by omega,hba⟩
theorem zdU(h:Hp):(zag h).Pairwise (fun a b=>a+osz h a<=b):=by
 unfold zag zbW;refine List.Pairwise.filter _ ?_;unfold zaL;by_cases h1:okH h=true
 · rw [if_pos h1];split
   · exact (zdi h1 _ (qam _)).1
   · exact List.Pairwise.nil
 · rw [if_neg h1];exact List.Pairwise.nil
theorem zeY{R:Int->Int->Prop}:∀ {l:List Int},l.Pairwise R->∀ {a b:Int},a∈l->b∈l->a=b\/R a b\/R b a
 | [],_,a,b,ha,_=>by cases ha
 | c::l,hp,a,b,ha,hb=>by
  obtain ⟨h1,h2⟩:=List.pairwise_cons.1 hp;rcases qat.1 ha with ha2 | ha2 <;> rcases qat.1 hb with hb2 | hb2
  · exact Or.inl (ha2.trans hb2.symm)
  · subst ha2;exact Or.inr (Or.inl (h1 _ hb2))
  · subst hb2;exact Or.inr (Or.inr (h1 _ ha2))
  · exact zeY h2 ha2 hb2
theorem zda{h:Hp}{a b:Int}(ha:a∈zag h)(hb:b∈zag h)(hne:a≠b):a+osz h a<=b\/b+osz h b<=a :=
 (zeY (zdU h) ha hb).resolve_left hne
theorem zam{h:Hp}{a:Int}(ha:a∈zag h):∃ i j g,Begins h a i j g:=zfX (zdr ha).1
theorem zaE{len:Nat}{a:Int}{n:Nat}:okA len a n=true↔4096<=a/\a+n<=4096+len:=by
 unfold okA;rw [qaa];omega
theorem zcV(xs:List Int){a:Int}(h:4096<=a):zas xs a=(xs[(a-4096).toNat]?).getD 0:=by
 unfold zas;by_cases hk:okA xs.length a 1=true
 · rw [if_pos hk,qay]
 · rw [if_neg hk];have:xs[(a-4096).toNat]?=none:=by
    rw [qcx];have h2:¬(4096<=a/\a+(1:Nat)<=4096+xs.length):=fun c=>hk (zaE.2 c)
    omega
   rw [this];rfl
theorem zjT(xs:List Int){a:Int}(h:a<4096):zas xs a=0:=by
 unfold zas okA;rw [if_neg];simp only [qaa];omega
theorem zd1{xs l:List Int}{p:Int}(h:okA xs.length p l.length=true):(zaF xs p l).length=xs.length:=by
 unfold zaF;rw [if_pos h]
 have:=zaE.1 h
 exact zcH (by omega)
theorem za9{xs l:List Int}{p:Int}(h:okA xs.length p l.length=true){a:Int}(ha:a<p\/p+l.length<=a):zas (zaF xs p l) a=zas xs a:=by
 have h2:=zaE.1 h;by_cases h4:4096<=a
 · rw [zcV _ h4,zcV _ h4];unfold zaF;rw [if_pos h,zfx (by omega) (by omega)]
 · rw [zjT _ (by omega),zjT _ (by omega)]
theorem zet{xs:List Int}{p v:Int}(h:okA xs.length p 1=true):zas (zaF xs p [v]) p=v:=by
 have h2:=zaE.1 h;rw [zcV _ h2.1];unfold zaF;rw [if_pos (show okA xs.length p [v].length=true from h),zdj (by simp;omega) (qam _) (by simp),qbK];rfl
theorem znO{xs:List Int}{t f n:Int}(h0:0<=n)(ht:okA xs.length t n.toNat=true)(hf:okA xs.length f n.toNat=true):(zes xs t f n).length=xs.length:=by
 unfold zes;rw [if_neg (by omega),if_pos ⟨ht,hf⟩]
 have h1:=zaE.1 ht;have h2:=zaE.1 hf;refine zcH ?_;rw [qau,qaG];omega
theorem zg6{xs:List Int}{t f n:Int}(h0:0<=n)(ht:okA xs.length t n.toNat=true)(hf:okA xs.length f n.toNat=true){a:Int}(ha:a<t\/t+n<=a):zas (zes xs t f n) a=zas xs a:=by
 have h1:=zaE.1 ht;have h2:=zaE.1 hf;by_cases h4:4096<=a
 · rw [zcV _ h4,zcV _ h4];unfold zes;rw [if_neg (by omega),if_pos ⟨ht,hf⟩,zfx (by rw [qau,qaG];omega) (by rw [qau,qaG];omega)]
 · rw [zjT _ (by omega),zjT _ (by omega)]
theorem zi4{xs:List Int}{t f n:Int}(h0:0<=n)(ht:okA xs.length t n.toNat=true)(hf:okA xs.length f n.toNat=true){k:Int}(hk0:0<=k)(hk:k<n):zas (zes xs t f n) (t+k)=zas xs (f+k):=by
 have h1:=zaE.1 ht;have h2:=zaE.1 hf;rw [zcV _ (by omega),zcV _ (by omega)]
 unfold zes;rw [if_neg (by omega),if_pos ⟨ht,hf⟩,zdj (by rw [qau,qaG];omega) (by omega) (by rw [qau,qaG];omega),qa6,if_pos (by omega),qa5]
 congr 2;omega
def zbj(x:Wk)(q:Int):Prop:=∃ (k:Nat) (g:Pg),(k:Int)∈x.taken/\x.h.pages[k]?=some g/\4096+(k:Int)*x.h.pw<=q/\okD (evWd x q).toNat=true/\q+evN x q<=4096+(k:Int)*x.h.pw+g.used
def zcj(x:Wk)(a:Int):Bool:=decide (¬a∈x.queue) && !okT (evWd x a).toNat
structure Inv (h:Hp) (x:Wk):Prop where
 ok:okH h=true
 pw:x.h.pw=h.pw
 np:x.h.np=h.np
 sp:x.h.space=h.space
 old:x.old=zag h
 wl:x.h.words.length=h.words.length
 pl:x.h.pages.length=h.pages.length
 tk:∀ t∈x.taken,∃ (k:Nat) (g0 g:Pg),t=(k:Int)/\h.pages[k]?=some g0/\g0.kind=0/\x.h.pages[k]?=some g/\g.kind=1/\0<=g.used/\g.used<=h.pw
 pg:∀ (k:Nat) (g0:Pg),h.pages[k]?=some g0->¬(k:Int)∈x.taken->∃ g,x.h.pages[k]?=some g/\g.kind=g0.kind/\g.used=g0.used
 tl:x.taken.length<=zbE x.h.pages
 un:∀ a∈zag h,evWd x a=zas h.words a\/(okT (evWd x a).toNat=true/\¬a∈x.queue/\zep x (ofI h.pw h.np a)=false)
 qs:∀ q∈x.queue,q∈zag h\/zbj x q
 dj:∀ q∈x.queue,∀ r∈x.queue,zbj x q->zbj x r->q≠r->q+evN x q<=r\/r+evN x r<=q
 cnt:x.queue.length+((zag h).filter (zcj x)).length<=(zag h).length
structure Later (x y:Wk):Prop where
 sc:y.sc=x.sc
 qu:∃ l,y.queue=x.queue++l
 hd:∀ q∈x.queue,evWd y q=evWd x q
theorem Later.refl(x:Wk):Later x x:=⟨rfl,⟨[],by simp⟩,fun _ _=>rfl⟩
theorem Later.mem{x y:Wk}(h:Later x y){q:Int}(hq:q∈x.queue):q∈y.queue:=by
 obtain ⟨l,e⟩:=h.qu;rw [e];exact qa1 _ hq
theorem Later.trans{x y z:Wk}(h:Later x y)(k:Later y z):Later x z:=by
 refine ⟨k.sc.trans h.sc,?_,fun q hq=>(k.hd q (h.mem hq)).trans (h.hd q hq)⟩
 obtain ⟨l,e⟩:=h.qu;obtain ⟨m,f⟩:=k.qu;exact ⟨l++m,by rw [f,e,qaN]⟩
theorem zkY{x:Wk}{a:Int}(h:okD (evWd x a).toNat=true):evN x a=dN (evWd x a).toNat+1/\(evH x a).n=dN (evWd x a).toNat:=by
 have e:=zmQ h;have v:=(zcq h).2.2;refine ⟨?_,?_⟩
 · unfold evN;rw [e.1,e.2.1,e.2.2,zcm v]
 · unfold evH;exact e.2.1
theorem zi2{h:Hp}{x:Wk}{a:Int}(ha:a∈zag h)(e:evWd x a=zas h.words a):okD (evWd x a).toNat=true/\evN x a=osz h a/\(evH x a).n+1=osz h a/\okT (evWd x a).toNat=false:=by
 obtain ⟨i,j,g,b⟩:=zam ha;have hp:=b.pos;have h1:(evWd x a).toNat=zaw h a:=by
  rw [e,zcV _ hp.2];unfold zaw;rw [qay]
 have h2:okD (evWd x a).toNat=true:=by rw [h1];exact b.od
 obtain ⟨e1,e2⟩:=zkY h2;have hs:=b.sz;rw [<-h1]at hs;refine ⟨h2,by omega,by omega,?_⟩
 rw [<-qbs];exact fun c=>apart _ ⟨h2,c⟩
theorem Inv.kept{h:Hp}{x:Wk}(I:Inv h x){a:Int}(ha:a∈zag h)(hq:a∈x.queue):evWd x a=zas h.words a :=
 (I.un a ha).elim id (fun c=>absurd hq c.2.1)
theorem Inv.conf{h:Hp}{x:Wk}(I:Inv h x):16<=h.pw/\h.pw<=64/\8<=h.np/\h.np<=64/\(h.words.length:Int)=h.np*h.pw/\(h.pages.length:Int)=h.np/\h.np*h.pw<=4096/\0<=h.space/\h.space<=1:=by
 obtain ⟨c1,c2,c3,c4,c5,c6,c7⟩:=zaq I.ok;obtain ⟨p1,p2,p3,p4,p5⟩:=zai c1;exact ⟨p1,p2,p4,p5,c2,c3,(conf_prod c1).2,c4,c5⟩
theorem Inv.qlen{h:Hp}{x:Wk}(I:Inv h x):x.queue.length<=(zag h).length/\(zag h).length<=4096:=by
 refine ⟨by have:=I.cnt;omega,?_⟩
 unfold zag zbW;exact qaD (qbz _ _) (zcG h)
theorem Inv.plok{h:Hp}{x:Wk}(I:Inv h x):PlOK x:=by
 obtain ⟨c1,c2,c3,c4,c5,c6,c7,c8,c9⟩:=I.conf;have h1:=I.pl;refine ⟨by rw [I.pw];exact c1,by rw [I.pw];exact c2,by omega,by omega,by rw [I.sp];exact c8,by rw [I.sp];exact c9,?_,fun l hl=>?_⟩
 · have h2:=I.tl;have h3:=zjV x.h.pages;omega
 · obtain ⟨k,g0,g,e,-,-,h4,-,h5,h6⟩:=I.tk l (List.mem_of_getLast? hl);exact ⟨k,e,g,h4,h5,by rw [I.pw];exact h6⟩
theorem Inv.fwok{h:Hp}{x:Wk}(I:Inv h x):FwOK x:=by
 have h1:=I.conf;have h2:=I.wl;have h3:=I.qlen;exact ⟨I.plok,by omega,by omega⟩
theorem Inv.copy{h:Hp}{x:Wk}(I:Inv h x){q:Int}(hc:zbj x q):∃ (k:Nat) (g0:Pg),h.pages[k]?=some g0/\g0.kind=0/\(k:Int)<h.np/\4096+(k:Int)*h.pw<=q/\q+evN x q<=4096+(k:Int)*h.pw+h.pw/\1<=evN x q/\okD (evWd x q).toNat=true:=by
 obtain ⟨k,g,h1,h2,h3,h4,h5⟩:=hc;obtain ⟨k2,g0,g2,e,f1,f2,f3,f4,f5,f6⟩:=I.tk _ h1;obtain rfl:k=k2:=by omega
 rw [h2]at f3;injection f3 with f3
 subst f3;have:=(zkY h4).1
 have h7:=(qak.1 f1).1;have h8:=I.conf;rw [I.pw]at h3 h5;exact ⟨k,g0,f1,f2,by omega,h3,by omega,by omega,h4⟩
theorem Inv.old_copy{h:Hp}{x:Wk}(I:Inv h x){a q:Int}(ha:a∈zag h)(hc:zbj x q):a+osz h a<=q\/q+evN x q<=a:=by
 obtain ⟨k,g0,h1,h2,h3,h4,h5,h6,h7⟩:=I.copy hc;obtain ⟨i,j,g,b⟩:=zam ha;have:=zaN b h1 h2
 omega
theorem Inv.inside{h:Hp}{x:Wk}(I:Inv h x){A i:Int}(hA:A∈x.queue)(h0:0<=i)(h1:i<(evH x A).n):
 okA x.h.words.length (A+1+i) 1=true/\(∀ a∈zag h,A+1+i≠a)/\(∀ q∈x.queue,A+1+i≠q):=by
 have hcf:=I.conf;have hwl:=I.wl;rcases I.qs A hA with ho | hc
 · have e:=I.kept ho hA;obtain ⟨e1,e2,e3,e4⟩:=zi2 ho e;obtain ⟨i2,j2,g,b⟩:=zam ho;have hb:=b.pos;have hbl:=b.wl;have hold:∀ a∈zag h,A+1+i≠a:=fun a ha eq=>by
    by_cases hne:A=a
    · omega
    · have h2:=zda ho ha hne;obtain ⟨i3,j3,g3,b3⟩:=zam ha;have:=b3.pos
      omega
   refine ⟨zaE.2 (by omega),hold,fun q hq eq=>?_⟩
   rcases I.qs q hq with h2 | h2
   · exact hold q h2 eq
   · have h3:=I.old_copy ho h2;obtain ⟨k,g0,f1,f2,f3,f4,f5,f6,f7⟩:=I.copy h2;omega
 · obtain ⟨k,g0,f1,f2,f3,f4,f5,f6,f7⟩:=I.copy hc;obtain ⟨e1,e2⟩:=zkY f7;obtain ⟨c1,-⟩:=zaq I.ok;have pp:=zaY (p:=k) c1 (by omega) f3
   have hold:∀ a∈zag h,A+1+i≠a:=fun a ha eq=>by
    have h3:=I.old_copy ha hc;obtain ⟨i3,j3,g3,b3⟩:=zam ha;have:=b3.pos
    omega
   refine ⟨zaE.2 (by omega),hold,fun q hq eq=>?_⟩
   rcases I.qs q hq with h2 | h2
   · exact hold q h2 eq
   · by_cases hne:A=q
     · omega
     · have h3:=I.dj A hA q hq hc h2 hne;obtain ⟨k2,g2,d1,d2,d3,d4,d5,d6,d7⟩:=I.copy h2;omega
theorem zkT{p q:Int->Bool}:∀ {l:List Int},(∀ a∈l,p a=q a)->l.filter p=l.filter q
 | [],_=>rfl
 | a::l,h=>by
  rw [qb1,qb1,h a (qbe ..),zkT (fun b hb=>h b (qaH _ hb))]
theorem zgk{p q:Int->Bool}{c:Int}:∀ {l:List Int},(∀ a∈l,q a=true->p a=true)->c∈l->p c=true->q c=false->(l.filter q).length+1<=(l.filter p).length
 | [],_,hc,_,_=>by cases hc
 | a::l,h,hc,hp,hq=>by
  have hle:∀ {m:List Int},(∀ a∈m,q a=true->p a=true)->(m.filter q).length<=(m.filter p).length:=by
   intro m;induction m with
   | nil=>intro _;exact qam _
   | cons b m ih=>
    intro hm;have h1:=ih (fun a ha=>hm a (qaH _ ha))
    have h2:=hm b (qbe ..);rw [qb1,qb1];cases hqb:q b
    · simp only [qbi,qbd];cases p b <;> simp <;> omega
    · rw [h2 hqb];simp;omega
  rw [qb1,qb1];rcases qat.1 hc with rfl | hc
  · rw [hp,hq];have:=hle (m:=l) (fun a ha=>h a (qaH _ ha))
    simp;omega
  · have h1:=zgk (fun a ha=>h a (qaH _ ha)) hc hp hq
    have h2:=h a (qbe ..);cases hqb:q a
    · simp only [qbi,qbd];cases p a <;> simp <;> omega
    · rw [h2 hqb];simp;omega
theorem Inv.write{h:Hp}{x:Wk}(I:Inv h x){p v:Int}(hp:okA x.h.words.length p 1=true)(h1:∀ a∈zag h,p≠a)(h2:∀ q∈x.queue,p≠q):
 Inv h { x with h:={ x.h with words:=zaF x.h.words p [v] } }/\Later x { x with h:={ x.h with words:=zaF x.h.words p [v] } }:=by
 have hev:∀ a,p≠a->evWd { x with h:={ x.h with words:=zaF x.h.words p [v] } } a=evWd x a:=fun a ha=>by
  unfold evWd;exact za9 (l:=[v]) hp (by simp only [qbD];omega)
 have hcp:∀ q∈x.queue,(zbj { x with h:={ x.h with words:=zaF x.h.words p [v] } } q↔zbj x q):=fun q hq=>by
  unfold zbj evN;rw [hev q (h2 q hq)]
 have hn:∀ q∈x.queue,evN { x with h:={ x.h with words:=zaF x.h.words p [v] } } q=evN x q:=fun q hq=>by
  unfold evN;rw [hev q (h2 q hq)]
 refine ⟨⟨I.ok,I.pw,I.np,I.sp,I.old,?_,I.pl,I.tk,I.pg,I.tl,fun a ha=>?_,fun q hq=>?_,fun q hq r hr cq cr hne=>?_,?_⟩,⟨rfl,⟨[],by simp⟩,fun q hq=>hev q (h2 q hq)⟩⟩
 · exact (zd1 (l:=[v]) hp).trans I.wl
 · rw [hev a (h1 a ha)];exact I.un a ha
 · rcases I.qs q hq with c | c
   · exact Or.inl c
   · exact Or.inr ((hcp q hq).2 c)
 · rw [hn q hq,hn r hr];exact I.dj q hq r hr ((hcp q hq).1 cq) ((hcp r hr).1 cr) hne
 · rw [zkT (q:=zcj x) (fun a ha=>by unfold zcj;rw [hev a (h1 a ha)])];exact I.cnt
theorem zkL:∀ {ps:List Pg} {k:Nat} {z y:Pg},ps[k]?=some z->zbE (ps.set k y)+(if z.kind=0 then 0 else 1)=zbE ps+(if y.kind=0 then 0 else 1)
 | [],k,z,y,h=>by simp at h
 | a::r,0,z,y,h=>by
  simp at h;subst h
  rw [List.set_cons_zero,zbE,zbE];omega
 | a::r,k+1,z,y,h=>by
  have ih:=zkL (ps:=r) (k:=k) (z:=z) (y:=y) (by simpa using h)
  rw [List.set_cons_succ,zbE,zbE];omega
theorem zkM:∀ {ps qs:List Pg},ps.map (·.kind)=qs.map (·.kind)->zbE ps=zbE qs
 | [],[],_=>rfl
 | [],_::_,h=>by simp at h
 | _::_,[],h=>by simp at h
 | a::r,b::s,h=>by
  simp at h
  rw [zbE,zbE,h.1,zkM (ps:=r) (qs:=s) h.2]
theorem Inv.place{h:Hp}{x:Wk}(I:Inv h x){n:Int}(hn0:1<=n)(hn:n<=h.pw)(hb:plB x n=true):∃ (J:Nat) (u:Int) (g0 g1:Pg),
 plA x n=4096+(J:Int)*h.pw+u/\0<=u/\u+n<=h.pw/\(J:Int)<h.np/\h.pages[J]?=some g0/\g0.kind=0 /\
 (∀ k:Nat,k≠J->(plW x n).h.pages[k]?=x.h.pages[k]?)/\(plW x n).h.pages[J]?=some g1/\g1.kind=1/\g1.used=u+n /\
 (plW x n).h.pages.length=x.h.pages.length/\(J:Int)∈(plW x n).taken/\(∀ t,t∈(plW x n).taken↔t∈x.taken\/t=J)/\(plW x n).taken.length<=zbE (plW x n).h.pages /\
 ((J:Int)∈x.taken->∃ g,x.h.pages[J]?=some g/\g.used=u):=by
 have hcf:=I.conf;obtain ⟨J,y,p1,p2,p3,p4,p5,p6,p7⟩:=zfC I.plok hb;have hpl:=I.pl;have htl:=I.tl;have e1:(plW x n).h.pages=(plPs x n).set J ⟨y.kind,y.space,y.used+n,y.pins⟩:=by
  show zgC (plPs x n) (plJ x n).toNat n=_
  unfold zgC;rw [p1,qad,zav p4]
 have e2:(plW x n).taken=plT x n:=rfl
 have hA:plA x n=4096+(J:Int)*h.pw+y.used:=by
  unfold plA;rw [p1,qad,zav p4,I.pw]
 rw [I.pw]at p6 p7;have hJ:(plW x n).h.pages[J]?=some ⟨y.kind,y.space,y.used+n,y.pins⟩:=by
  rw [e1,qaW];simp [p3,p2]
 have hu1:zbE (plW x n).h.pages=zbE (plPs x n):=by
  have:=zkL (y:=⟨y.kind,y.space,y.used+n,y.pins⟩) p4
  rw [e1];simp only at this;omega
 rcases p7 with ⟨r1,r2,r3,r4⟩ | ⟨r1,r2,r3,r4,z,r5,r6⟩
 · have hm:(J:Int)∈x.taken:=List.mem_of_getLast? r3;obtain ⟨k2,g0,g,f0,f1,f2,f3,f4,f5,f6⟩:=I.tk _ hm;obtain rfl:J=k2:=by omega
   rw [r2]at p4;rw [f3]at p4;injection p4 with p4
   subst p4;have hT:(plW x n).taken=x.taken:=by rw [e2];unfold plT;rw [if_pos r1]
   refine ⟨J,g.used,g0,_,hA,f5,r4,by omega,f1,f2,fun k hk=>?_,hJ,f4,rfl,by rw [e1,List.length_set,p3],by rw [hT];exact hm,fun t=>?_,?_,fun _=>⟨g,f3,rfl⟩⟩
   · rw [e1,qbZ (by omega),r2]
   · rw [hT];constructor
     · intro h;exact Or.inl h
     · rintro (h | rfl)
       · exact h
       · exact hm
   · rw [hu1,hT,r2];exact htl
 · have hnt:¬(J:Int)∈x.taken:=fun hm=>by
    obtain ⟨k2,g0,g,f0,f1,f2,f3,f4,f5,f6⟩:=I.tk _ hm;obtain rfl:J=k2:=by omega
    rw [r5]at f3;injection f3 with f3
    subst f3;omega
   have hlt:J<h.pages.length:=by omega
   obtain ⟨g,f1,f2,f3⟩:=I.pg J h.pages[J] (qap hlt) hnt;rw [r5]at f1;injection f1 with f1
   subst f1;have hT:(plW x n).taken=x.taken++[(J:Int)]:=by rw [e2];unfold plT;rw [r1,r2];rfl
   subst r4;refine ⟨J,0,h.pages[J],_,hA,qb9 _,by omega,by omega,qap hlt,by omega,fun k hk=>?_,hJ,rfl,rfl,by rw [e1,List.length_set,p3],by rw [hT];simp,fun t=>?_,?_,fun hm=>absurd hm hnt⟩
   · rw [e1,qbZ (by omega),r3,qbZ (by omega)]
   · rw [hT];simp
   · rw [hu1,hT,r3,qaB];have:=zkL (y:=⟨1,1-x.h.space,0,0⟩) r5
     rw [if_pos r6,if_neg (by simp)]at this
     simp only [qbD];omega
theorem zs7{x y:Wk}{i:Nat}(h1:y.h.pages[i]?=x.h.pages[i]?)(h2:y.h.space=x.h.space)(h3:(i:Int)∈y.taken↔(i:Int)∈x.taken):zep y i=zep x i:=by
 unfold zep;rw [qad,h1,h2];cases x.h.pages[i]? with
 | none=>rfl
 | some g=>simp only [h3]
theorem Inv.begun{h:Hp}{x:Wk}(I:Inv h x){a:Int}{i j:Nat}{g:Pg}(b:Begins h a i j g):¬(i:Int)∈x.taken:=fun hm=>by
 obtain ⟨k2,g0,g2,f0,f1,f2,-⟩:=I.tk _ hm;obtain rfl:i=k2:=by omega
 have:=b.pg
 rw [f1]at this;injection this with this
 subst this;rcases b.kd with ⟨k,-⟩ | ⟨k,-⟩ <;> omega
theorem zns{a:Int}(h0:0<=a)(h1:a<4294967296):okT (fwdV a).toNat=true:=by
 rw [(zw5 h1).1];refine okT_mk ?_ ?_ <;> omega
theorem Inv.keep{h:Hp}{x:Wk}(I:Inv h x){a:Int}(ha:a∈zag h)(hq:¬a∈x.queue)(ht:okT (evWd x a).toNat=false):Inv h (zdu x a)/\Later x (zdu x a):=by
 have e1:∀ b,evWd (zdu x a) b=evWd x b:=fun b=>rfl
 have e2:∀ b,evN (zdu x a) b=evN x b:=fun b=>rfl
 have e3:∀ b,zbj (zdu x a) b↔zbj x b:=fun b=>Iff.rfl
 have hm:∀ b,b∈(zdu x a).queue↔b∈x.queue\/b=a:=fun b=>by show b∈x.queue++[a]↔_;simp
 have hnc:∀ q,zbj x q->q≠a:=fun q hc e=>by
  subst e;have h1:=I.old_copy ha hc;obtain ⟨k,g0,f1,f2,f3,f4,f5,f6,f7⟩:=I.copy hc;obtain ⟨i,j,g,b⟩:=zam ha;have:=b.pos
  omega
 refine ⟨⟨I.ok,I.pw,I.np,I.sp,I.old,I.wl,I.pl,I.tk,I.pg,I.tl,fun b hb=>?_,fun q hqq=>?_,fun q hq2 r hr2 cq cr hne=>?_,?_⟩,⟨rfl,⟨[a],rfl⟩,fun _ _=>rfl⟩⟩
 · rcases I.un b hb with c | ⟨c1,c2,c3⟩
   · exact Or.inl c
   · refine Or.inr ⟨c1,fun hin=>?_,c3⟩
     rcases (hm b).1 hin with h2 | h2
     · exact c2 h2
     · subst h2;rw [ht]at c1;cases c1
 · rcases (hm q).1 hqq with h2 | h2
   · exact I.qs q h2
   · subst h2;exact Or.inl ha
 · have hq3:=((hm q).1 hq2).resolve_right (hnc q cq);have hr3:=((hm r).1 hr2).resolve_right (hnc r cr);exact I.dj q hq3 r hr3 cq cr hne
 · have h1:((zag h).filter (zcj (zdu x a))).length+1<=((zag h).filter (zcj x)).length:=by
    refine zgk (c:=a) (fun b hb hu=>?_) ha ?_ ?_
    · unfold zcj at hu ⊢
      simp only [qae,qaa]at hu ⊢;exact ⟨fun h2=>hu.1 ((hm b).2 (Or.inl h2)),hu.2⟩
    · unfold zcj;simp [hq,ht]
    · unfold zcj;rw [qaj (by simp [hm])];rfl
   have h2:(zdu x a).queue.length=x.queue.length+1:=by show (x.queue++[a]).length=_;simp
   have:=I.cnt
   omega
theorem zdF{P:Pg->Bool}:∀ {l:List Pg} {k:Nat},k<(l.takeWhile P).length->∃ y,l[k]?=some y/\P y=true
 | [],k,h=>by simp at h
 | a::l,k,h=>by
  rw [qcu]at h;split at h
  · rename_i hp;cases k with
    | zero=>exact ⟨a,rfl,hp⟩
    | succ k=>
     obtain ⟨y,h1,h2⟩:=zdF (l:=l) (k:=k) (by simpa using h)
     exact ⟨y,by simpa using h1,h2⟩
  · simp at h
theorem Inv.large{h:Hp}{x:Wk}(I:Inv h x){i:Nat}{g:Pg}(hg:x.h.pages[i]?=some g)(hk:g.kind=2):Inv h (zcd x i)/\Later x (zcd x i)/\(∀ a,evWd (zcd x i) a=evWd x a)/\(zcd x i).queue=x.queue:=by
 have hat:∀ (k:Nat) (y:Pg),x.h.pages[k]?=some y->∃ s,(zcd x i).h.pages[k]?=some ⟨y.kind,s,y.used,y.pins⟩/\(¬(y.kind=2\/y.kind=3)->s=y.space):=fun k y hy=>by
  show ∃ s,(spc x.h.pages i (zb4 x.h.pages i) (1-x.h.space))[k]?=_/\_
  unfold spc;rw [qct,hy];simp only [qbH];by_cases hr:i<=k/\k<zb4 x.h.pages i
  · rw [if_pos hr];refine ⟨1-x.h.space,rfl,fun hno=>?_⟩
    exfalso
    apply hno
    by_cases e:k=i
    · subst e;rw [hg]at hy;injection hy with hy;subst hy;exact Or.inl hk
    · right
      unfold zb4 at hr;obtain ⟨z,z1,z2⟩:=zdF (l:=x.h.pages.drop (i+1)) (k:=k-(i+1)) (P:=fun y=>decide (y.kind=3)) (by omega)
      rw [qa5,show i+1+(k-(i+1))=k from by omega,hy]at z1
      injection z1 with z1
      subst z1;exact qar z2
  · rw [if_neg hr];exact ⟨y.space,rfl,fun _=>rfl⟩
 have hkd:(zcd x i).h.pages.map (·.kind)=x.h.pages.map (·.kind):=by
  apply qbr
  intro k;rw [qbo,qbo];cases hy:x.h.pages[k]? with
  | some y=>
   obtain ⟨s,h1,-⟩:=hat k y hy;rw [h1];rfl
  | none=>
   have:(zcd x i).h.pages[k]?=none:=by
    show (spc x.h.pages i (zb4 x.h.pages i) (1-x.h.space))[k]?=none
    unfold spc;rw [qct,hy];rfl
   rw [this]
 have hln:(zcd x i).h.pages.length=x.h.pages.length:=by
  have:=congrArg List.length hkd
  rwa [qai,qai]at this
 have hcp:∀ q,zbj (zcd x i) q->zbj x q:=fun q ⟨k,g2,c1,c2,c3,c4,c5⟩=>by
  cases hy:x.h.pages[k]? with
  | some y=>
   obtain ⟨s,h1,-⟩:=hat k y hy;rw [h1]at c2;injection c2 with c2
   exact ⟨k,y,c1,hy,c3,c4,by subst c2;exact c5⟩
  | none=>
   have h1:=qcx.1 hy;have h2:=(qak.1 c2).1;omega
 refine ⟨⟨I.ok,I.pw,I.np,I.sp,I.old,I.wl,hln.trans I.pl,fun t ht=>?_,fun k g0 hg0 hnt=>?_,?_,fun a ha=>?_,fun q hq=>?_,fun q hq r hr cq cr hne=>I.dj q hq r hr (hcp q cq) (hcp r cr) hne,I.cnt⟩,⟨rfl,⟨[],by simp [zcd]⟩,fun _ _=>rfl⟩,fun _=>rfl,rfl⟩
 · obtain ⟨k,g0,g2,f0,f1,f2,f3,f4,f5,f6⟩:=I.tk t ht;obtain ⟨s,h1,-⟩:=hat k g2 f3;exact ⟨k,g0,_,f0,f1,f2,h1,f4,f5,f6⟩
 · obtain ⟨g2,f1,f2,f3⟩:=I.pg k g0 hg0 hnt;obtain ⟨s,h1,-⟩:=hat k g2 f1;exact ⟨_,h1,f2,f3⟩
 · rw [zkM hkd];exact I.tl
 · rcases I.un a ha with c | ⟨c1,c2,c3⟩
   · exact Or.inl c
   · refine Or.inr ⟨c1,c2,?_⟩;obtain ⟨i2,j2,g2,b⟩:=zam ha;rw [b.oi]at c3 ⊢
     obtain ⟨y,f1,f2,f3⟩:=I.pg i2 g2 b.pg (I.begun b);obtain ⟨s,h1,h2⟩:=hat i2 y f1;unfold zep at c3 ⊢
     rw [qad,f1]at c3;rw [qad,h1];simp only at c3 ⊢
     by_cases hk1:y.kind=1
     · rw [h2 (by omega)];exact c3
     · rw [qaj hk1];simp
 · rcases I.qs q hq with c | ⟨k,y,c1,c2,c3,c4,c5⟩
   · exact Or.inl c
   · obtain ⟨s,h1,-⟩:=hat k y c2;exact Or.inr ⟨k,_,c1,h1,c3,c4,c5⟩
theorem Inv.copied{h:Hp}{x:Wk}(I:Inv h x){a:Int}(ha:a∈zag h)(hq:¬a∈x.queue)(ht:okT (evWd x a).toNat=false)(hpr:zep x (evI x a)=false)(hbig:zhi x a=false)(hpl:plB x (evN x a)=true):
 Inv h (zbq x a)/\Later x (zbq x a):=by
 obtain ⟨c1,c2,c3,c4,c5,c6,c7,c8,c9⟩:=I.conf;obtain ⟨i,j,g,b⟩:=zam ha;have hbp:=b.pos;have hbw:=b.wl;have hwl:=I.wl;have e0:evWd x a=zas h.words a:=(I.un a ha).elim id (fun c=>by rw [ht]at c;exact absurd c.1 (by decide))
 obtain ⟨e1,e2,e3,-⟩:=zi2 ha e0;have hoi:evI x a=i:=by unfold evI;rw [I.pw,I.np];exact b.oi
 obtain ⟨y,f1,f2,f3⟩:=I.pg i g b.pg (I.begun b);have hk1:g.kind=1:=by
  rcases b.kd with ⟨k,-⟩ | ⟨k,-⟩
  · exact k
  · unfold zhi at hbig;rw [hoi,qad,zav f1]at hbig;have:=qa3 hbig
    omega
 have hn:evN x a<=h.pw:=by
  rcases b.kd with ⟨k,l,m⟩ | ⟨k,-⟩ <;> omega
 have hn0:1<=evN x a:=by omega
 obtain ⟨J,u,g0,g1,hA,hu0,hun,hJ,hg0,hk0,hoth,hg1,hk11,hu1,hplen,hJt,htk,htl,hru⟩:=I.place hn0 hn hpl;obtain ⟨N,hN⟩:∃ N,evN x a=N:=⟨_,rfl⟩
 obtain ⟨T,hT⟩:∃ T,plA x N=T:=⟨_,rfl⟩
 rw [hN]at hA hn hn0 hun hoth hg1 hu1 hplen hJt htk htl e2 hpl;rw [hT]at hA;have hpp:=zaY (p:=(J:Int)) (zaq I.ok).1 (by omega) hJ
 have hfree:=zaN b hg0 hk0;have ka:okA x.h.words.length T N.toNat=true:=zaE.2 (by omega)
 have kb:okA x.h.words.length a N.toNat=true:=zaE.2 (by omega)
 have kc:okA (zes x.h.words T a N).length a [fwdV T].length=true:=by rw [znO (by omega) ka kb];exact zaE.2 (by simp only [qbD];omega)
 have hW:(zbq x a).h.words=zaF (zes x.h.words T a N) a [fwdV T]:=by
  show zk8 x a=_
  unfold zk8;rw [hN,hT]
 have hQ:(zbq x a).queue=x.queue++[T]:=by show x.queue++[plA x (evN x a)]=_;rw [hN,hT]
 have hP:(zbq x a).h.pages=(plW x N).h.pages:=by show (plW x (evN x a)).h.pages=_;rw [hN]
 have hTk:(zbq x a).taken=(plW x N).taken:=by show (plW x (evN x a)).taken=_;rw [hN]
 have hpw:(zbq x a).h.pw=h.pw:=I.pw
 have hself:evWd (zbq x a) a=fwdV T:=by unfold evWd;rw [hW];exact zet kc
 have hout:∀ p,p≠a->(p<T\/T+N<=p)->evWd (zbq x a) p=evWd x p:=fun p h1 h2=>by
  unfold evWd;rw [hW,za9 kc (by simp only [qbD];omega)]
  exact zg6 (by omega) ka kb (by omega)
 have hnew:evWd (zbq x a) T=evWd x a:=by
  unfold evWd;rw [hW,za9 kc (by simp only [qbD];omega)]
  have:=zi4 (k:=0) (by omega) ka kb (qb9 _) (by omega)
  simpa using this
 have hold:∀ c∈zag h,c≠a->evWd (zbq x a) c=evWd x c:=fun c hc hne=>by
  obtain ⟨i3,j3,g3,b3⟩:=zam hc;have h1:=zaN b3 hg0 hk0;have h2:=b3.pos;exact hout c hne (by omega)
 have hbelow:∀ q,zbj x q->q+evN x q<=T\/T+N<=q:=fun q hc=>by
  have hc2:=hc;obtain ⟨k,y2,d1,d2,d3,d4,d5⟩:=hc;obtain ⟨k3,y0,y3,l0,l1,l2,l3,l4,l5,l6⟩:=I.tk _ d1;obtain rfl:k=k3:=by omega
  rw [d2]at l3;injection l3 with l3
  subst l3;rw [I.pw]at d3 d5;by_cases hkJ:k=J
  · subst hkJ;obtain ⟨g5,m1,m2⟩:=hru d1;rw [d2]at m1;injection m1 with m1
    subst m1;left;omega
  · by_cases hlt:k<J
    · left
      have:((k:Int)+1)*h.pw<=(J:Int)*h.pw:=qaR (by omega) (by omega)
      rw [qa9,qbj]at this;omega
    · right
      have:((J:Int)+1)*h.pw<=(k:Int)*h.pw:=qaR (by omega) (by omega)
      rw [qa9,qbj]at this;omega
 have hcopy:∀ q,zbj x q->evWd (zbq x a) q=evWd x q/\q≠a/\q≠T:=fun q hc=>by
  have h1:=hbelow q hc;obtain ⟨k,y0,l1,l2,l3,l4,l5,l6,l7⟩:=I.copy hc;have h2:=I.old_copy ha hc;have hne:q≠a:=by omega
  exact ⟨hout q hne (by omega),hne,by omega⟩
 have hcopyN:∀ q,zbj x q->evN (zbq x a) q=evN x q:=fun q hc=>by unfold evN;rw [(hcopy q hc).1]
 have hqd:∀ q∈x.queue,evWd (zbq x a) q=evWd x q:=fun q h1=>by
  rcases I.qs q h1 with h2 | h2
  · exact hold q h2 (fun e=>hq (by rw [<-e];exact h1))
  · exact (hcopy q h2).1
 have hcc:∀ q,zbj x q->zbj (zbq x a) q:=fun q hc=>by
  have h9:=hcopyN q hc;have h8:=(hcopy q hc).1;have hc2:=hc;obtain ⟨k,y2,d1,d2,d3,d4,d5⟩:=hc;by_cases hkJ:k=J
  · subst hkJ;obtain ⟨g5,m1,m2⟩:=hru d1;rw [d2]at m1;injection m1 with m1
    subst m1;refine ⟨k,g1,by rw [hTk];exact hJt,by rw [hP];exact hg1,by rw [hpw];rw [I.pw]at d3;exact d3,by rw [h8];exact d4,?_⟩
    rw [h9,hpw];rw [I.pw]at d5;omega
  · refine ⟨k,y2,by rw [hTk];exact (htk _).2 (Or.inl d1),by rw [hP,hoth k hkJ];exact d2,by rw [hpw];rw [I.pw]at d3;exact d3,by rw [h8];exact d4,?_⟩
    rw [h9,hpw];rw [I.pw]at d5;exact d5
 have hback:∀ q∈x.queue,zbj (zbq x a) q->zbj x q:=fun q h1 hc=>by
  rcases I.qs q h1 with h2 | h2
  · exfalso
    obtain ⟨k,y2,d1,d2,d3,d4,d5⟩:=hc;obtain ⟨i3,j3,g3,b3⟩:=zam h2;have hb3:=b3.pos;rw [hpw]at d3 d5;have hge:1<=evN (zbq x a) q:=by have:=(zkY d4).1;omega
    rw [hTk]at d1;rw [hP]at d2;rcases (htk _).1 d1 with d1 | d1
    · obtain ⟨k3,y0,y3,l0,l1,l2,l3,l4,l5,l6⟩:=I.tk _ d1;obtain rfl:k=k3:=by omega
      have h6:=zaN b3 l1 l2;have hul:y2.used<=h.pw:=by
       by_cases hkJ:k=J
       · subst hkJ;rw [hg1]at d2;injection d2 with d2;subst d2;omega
       · rw [hoth k hkJ,l3]at d2;injection d2 with d2;subst d2;exact l6
      omega
    · obtain rfl:k=J:=by omega
      have h6:=zaN b3 hg0 hk0;rw [hg1]at d2;injection d2 with d2;subst d2
      omega
  · exact h2
 have hTN:evN (zbq x a) T=N:=by unfold evN;rw [hnew];exact hN
 refine ⟨⟨I.ok,I.pw,I.np,I.sp,I.old,?_,?_,fun t h1=>?_,fun k g5 h1 h2=>?_,?_,fun c hc=>?_,fun q h1=>?_,fun q h1 r h2 cq cr hne=>?_,?_⟩,⟨rfl,⟨[T],hQ⟩,hqd⟩⟩
 · rw [hW,zd1 kc,znO (by omega) ka kb];exact hwl
 · rw [hP,hplen];exact I.pl
 · rw [hTk]at h1;rw [hP];by_cases hkJ:t=J
   · exact ⟨J,g0,g1,hkJ,hg0,hk0,hg1,hk11,by omega,by omega⟩
   · obtain ⟨k3,y0,y3,l0,l1,l2,l3,l4,l5,l6⟩:=I.tk _ (((htk t).1 h1).resolve_right hkJ);exact ⟨k3,y0,y3,l0,l1,l2,by rw [hoth k3 (by omega)];exact l3,l4,l5,l6⟩
 · rw [hTk]at h2;rw [hP];have hnt:¬(k:Int)∈x.taken:=fun h3=>h2 ((htk _).2 (Or.inl h3))
   have hkJ:k≠J:=fun e=>h2 ((htk _).2 (Or.inr (by rw [e])))
   obtain ⟨y5,l1,l2,l3⟩:=I.pg k g5 h1 hnt;exact ⟨y5,by rw [hoth k hkJ];exact l1,l2,l3⟩
 · rw [hTk,hP];exact htl
 · have hstab:∀ i5 j5 g5,Begins h c i5 j5 g5->zep (zbq x a) i5=zep x i5:=fun i5 j5 g5 b5=>by
    have hnt:=I.begun b5;have hkJ:i5≠J:=fun e=>by
     subst e;have:=b5.pg
     rw [hg0]at this;injection this with this
     subst this;rcases b5.kd with ⟨k,-⟩ | ⟨k,-⟩ <;> omega
    refine zs7 (by rw [hP];exact hoth i5 hkJ) rfl ?_
    rw [hTk,htk];constructor
    · rintro (h | h)
      · exact h
      · omega
    · exact Or.inl
   obtain ⟨i5,j5,g5,b5⟩:=zam hc;by_cases hca:c=a
   · subst hca;right
     refine ⟨by rw [hself];exact zns (by omega) (by omega),fun h1=>?_,?_⟩
     · rw [hQ]at h1;rcases qas.1 h1 with h1 | h1
       · exact hq h1
       · have:=qaw.1 h1;omega
     · rw [b5.oi,hstab _ _ _ b5];have:evI x c=i5:=by unfold evI;rw [I.pw,I.np];exact b5.oi
       rw [<-this];exact hpr
   · rw [hold c hc hca];rcases I.un c hc with h1 | ⟨h1,h2,h3⟩
     · exact Or.inl h1
     · refine Or.inr ⟨h1,fun h4=>?_,by rw [b5.oi]at h3 ⊢;rw [hstab _ _ _ b5];exact h3⟩
       rw [hQ]at h4;rcases qas.1 h4 with h4 | h4
       · exact h2 h4
       · have h5:=qaw.1 h4;have h6:=zaN b5 hg0 hk0;have h7:=b5.pos;omega
 · rw [hQ]at h1;rcases qas.1 h1 with h1 | h1
   · rcases I.qs q h1 with h2 | h2
     · exact Or.inl h2
     · exact Or.inr (hcc q h2)
   · have h5:=qaw.1 h1;subst h5;refine Or.inr ⟨J,g1,by rw [hTk];exact hJt,by rw [hP];exact hg1,by rw [hpw];omega,by rw [hnew];exact e1,?_⟩
     rw [hTN,hpw];omega
 · rw [hQ]at h1 h2;rcases qas.1 h1 with m1 | m1 <;> rcases qas.1 h2 with m2 | m2
   · have cq2:=hback q m1 cq;have cr2:=hback r m2 cr;rw [hcopyN q cq2,hcopyN r cr2];exact I.dj q m1 r m2 cq2 cr2 hne
   · have h5:=qaw.1 m2;have cq2:=hback q m1 cq;rw [h5,hcopyN q cq2,hTN];exact hbelow q cq2
   · have h5:=qaw.1 m1;have cr2:=hback r m2 cr;rw [h5,hcopyN r cr2,hTN];exact (hbelow r cr2).symm
   · exact absurd ((qaw.1 m1).trans (qaw.1 m2).symm) hne
 · have h1:((zag h).filter (zcj (zbq x a))).length+1<=((zag h).filter (zcj x)).length:=by
    refine zgk (c:=a) (fun c hc hu=>?_) ha ?_ ?_
    · unfold zcj at hu ⊢
      by_cases hca:c=a
      · subst hca;rw [hself,zns (by omega) (by omega)]at hu
        simp at hu
      · rw [hold c hc hca]at hu;simp only [qae,qaa]at hu ⊢;exact ⟨fun h2=>hu.1 (by rw [hQ];exact qa1 _ h2),hu.2⟩
    · unfold zcj;simp [hq,ht]
    · unfold zcj;rw [hself,zns (by omega) (by omega)];simp
   have h2:(zbq x a).queue.length=x.queue.length+1:=by rw [hQ];simp
   have:=I.cnt
   omega
theorem Inv.forward{h:Hp}{x:Wk}(I:Inv h x){a:Int}(he:evE x a=0):Inv h (evW x a)/\Later x (evW x a):=by
 unfold evE at he;unfold evW;by_cases h0:a=0\/a∈x.queue
 · have hc:evC x a=0:=by unfold evC;rw [if_pos h0]
   rw [hc];exact ⟨I,Later.refl x⟩
 have hq:¬a∈x.queue:=fun c=>h0 (Or.inr c)
 by_cases ho:¬a∈x.old
 · have hc:evC x a=1:=by unfold evC;rw [if_neg h0,if_pos ho]
   rw [hc]at he;exact absurd he (by decide)
 replace ho:a∈x.old:=Classical.not_not.1 ho
 have ho2:a∈zag h:=by rw [<-I.old];exact ho
 by_cases ht:okT (evWd x a).toNat=true
 · have hc:evC x a=2:=by unfold evC;rw [if_neg h0,if_neg (by simpa using ho),if_pos ht]
   rw [hc];exact ⟨I,Later.refl x⟩
 replace ht:okT (evWd x a).toNat=false:=by simpa using ht
 by_cases h3:¬ofE x.h.pw x.h.np a=0\/(x.h.pages.length:Int)<=evI x a
 · have hc:evC x a=3:=by unfold evC;rw [if_neg h0,if_neg (by simpa using ho),if_neg (by simp [ht]),if_pos h3]
   rw [hc]at he;exact absurd he (by decide)
 cases hpr:zep x (evI x a) with
 | true=>
  have hc:evC x a=4:=by unfold evC;rw [if_neg h0,if_neg (by simpa using ho),if_neg (by simp [ht]),if_neg h3,if_pos hpr]
  rw [hc];exact I.keep ho2 hq ht
 | false=>
  cases hbig:zhi x a with
  | true=>
   have hc:evC x a=5:=by unfold evC;rw [if_neg h0,if_neg (by simpa using ho),if_neg (by simp [ht]),if_neg h3,if_neg (by simp [hpr]),if_pos hbig]
   rw [hc];obtain ⟨i,j,g,b⟩:=zam ho2;have hoi:evI x a=i:=by unfold evI;rw [I.pw,I.np];exact b.oi
   obtain ⟨y,f1,f2,f3⟩:=I.pg i g b.pg (I.begun b);have hk:y.kind=2:=by
    unfold zhi at hbig;rw [hoi,qad,zav f1]at hbig;exact qar hbig
   rw [hoi,qad];obtain ⟨I2,L2,e1,e2⟩:=I.large f1 hk;obtain ⟨I3,L3⟩:=I2.keep ho2 (by rw [e2];exact hq) (by rw [e1];exact ht)
   exact ⟨I3,L2.trans L3⟩
  | false=>
   cases hpp:plB x (evN x a) with
   | true=>
    have hc:evC x a=7:=by unfold evC;rw [if_neg h0,if_neg (by simpa using ho),if_neg (by simp [ht]),if_neg h3,if_neg (by simp [hpr]),if_neg (by simp [hbig]),if_pos hpp]
    rw [hc];exact I.copied ho2 hq ht hpr hbig hpp
   | false=>
    have hc:evC x a=6:=by unfold evC;rw [if_neg h0,if_neg (by simpa using ho),if_neg (by simp [ht]),if_neg h3,if_neg (by simp [hpr]),if_neg (by simp [hbig]),if_neg (by simp [hpp])]
    rw [hc]at he;exact absurd he (by decide)
def za5:Wk->List Int->List Int->Wk×List Int×Int
 | x,acc,[]=>(x,acc,0)
 | x,acc,r::rs=>if evE x r=0 then za5 (evW x r) (acc++[evA x r]) rs else (Wk.zero,[],evE x r)
def zot:Wk->List Int->Prop
 | _,[]=>True
 | x,r::rs=>FwOK x/\(0<=r/\r<18446744073709551616)/\(evE x r=0->zot (evW x r) rs)
def zdx(h:Hp):Wk:=⟨{ h with pages:=h.pages.map fun g=>if g.kind=1/\0<g.pins then ⟨g.kind,1-h.space,g.used,g.pins⟩ else g },zag h,[],[],0,0,0,0,0,0,0⟩
def zpN(x:Wk)(a:Int):Bool:=zep x (ofI x.h.pw x.h.np a) && !decide (a∈x.queue)
def zl3(x:Wk)(a:Int):List Int:=encV 0 (evH x a).n 0::List.replicate (evH x a).n.toNat 0
def zax(x:Wk)(a:Int):Wk:=if zpN x a then { x with h:={ x.h with words:=zaF x.h.words a (zl3 x a) },r2:=wrap64 (x.r2+1) } else x
def zcO(x:Wk):Wk:=x.old.foldl zax x
theorem zpO{x y:Wk}(L:Later x y){q:Int}(hq:q∈x.queue):evH y q=evH x q:=by
 unfold evH;rw [L.hd q hq]
theorem st_ok{h:Hp}{A:Int}:∀ (l:List Int) (x:Wk),Inv h x->A∈x.queue->(∀ i∈l,0<=i/\i<(evH x A).n)->StOK x A l/\((stGo x A l).2=0->Inv h (stGo x A l).1/\Later x (stGo x A l).1)
 | [],x,I,hA,_=>⟨trivial,fun _=>⟨I,Later.refl x⟩⟩
 | i::r,x,I,hA,hl=>by
  obtain ⟨h0,h1⟩:=hl i (qbe ..);have key:evE x (zas x.h.words (A+1+i))=0->Inv h (zc9 x (A+1+i))/\Later x (zc9 x (A+1+i)):=fun he=>by
   obtain ⟨I2,L2⟩:=I.forward he;have hA2:=L2.mem hA;obtain ⟨k1,k2,k3⟩:=I2.inside hA2 h0 (by rw [zpO L2 hA];exact h1)
   obtain ⟨I3,L3⟩:=I2.write (v:=evA x (zas x.h.words (A+1+i))) k1 k2 k3
   exact ⟨I3,L2.trans L3⟩
  have hrec:∀ he:evE x (zas x.h.words (A+1+i))=0,StOK (zc9 x (A+1+i)) A r/\((stGo (zc9 x (A+1+i)) A r).2=0->Inv h (stGo (zc9 x (A+1+i)) A r).1/\Later (zc9 x (A+1+i)) (stGo (zc9 x (A+1+i)) A r).1):=fun he=>by
   obtain ⟨I3,L3⟩:=key he;exact st_ok r _ I3 (L3.mem hA) (fun j hj=>by rw [zpO L3 hA];exact hl j (qaH _ hj))
  refine ⟨⟨I.fwok,fun he=>(hrec he).1⟩,fun hz=>?_⟩
  rw [stGo]at hz ⊢
  by_cases he:evE x (zas x.h.words (A+1+i))=0
  · rw [if_pos he]at hz ⊢
    obtain ⟨I4,L4⟩:=(hrec he).2 hz;exact ⟨I4,(key he).2.trans L4⟩
  · rw [if_neg he]at hz;exact absurd hz he
theorem stL_in{x:Wk}{A i:Int}(hi:i∈stL x A):0<=i/\i<(evH x A).n:=by
 have h:=zkj hi;unfold ptrB at h;simp only [qae,qaa]at h;exact ⟨h.1.1.2,h.1.2⟩
theorem Inv.queue_bd{h:Hp}{x:Wk}(I:Inv h x){A:Int}(hA:A∈x.queue):4096<=A/\A<=9000:=by
 rcases I.qs A hA with c | c
 · have:=zvw (zdr c).1;omega
 · obtain ⟨k,g0,f1,f2,f3,f4,f5,f6,f7⟩:=I.copy c;have h1:=I.conf;have h2:=zaY (p:=(k:Int)) (zaq I.ok).1 (by omega) f3
   omega
theorem Inv.reports{h:Hp}{x:Wk}(I:Inv h x)(s a b c d e f:Int):Inv h { x with sc:=s,r0:=a,r1:=b,r2:=c,r3:=d,r4:=e,r5:=f } :=
 ⟨I.ok,I.pw,I.np,I.sp,I.old,I.wl,I.pl,I.tk,I.pg,I.tl,I.un,I.qs,I.dj,I.cnt⟩
theorem zvB{h:Hp}:∀ (f:Nat) (x:Wk) (k:Nat),Inv h x->x.sc=k->k<=x.queue.length->(zag h).length+1<=k+f->zvK f x/\((allV f x).2=0->Inv h (allV f x).1)
 | 0,x,k,I,hk,hq,hf=>by have:=I.qlen;omega
 | f+1,x,k,I,hk,hq,hf=>by
  have hql:=I.qlen;cases hA:x.queue[k]? with
  | none=>
   refine ⟨⟨k,hk,by omega,Or.inl hA⟩,fun _=>?_⟩
   rw [zsN hk hA];exact I
  | some A=>
   have hAm:=qaK hA;have hkl:=(qak.1 hA).1;have hbd:=I.queue_bd hAm;obtain ⟨s1,s2⟩:=st_ok (stL x A) x I hAm (fun i hi=>stL_in hi)
   have key:stE x A=0->Inv h (stW x A)/\(stW x A).sc=((k+1:Nat):Int)/\k+1<=(stW x A).queue.length:=fun he=>by
    obtain ⟨I2,L2⟩:=s2 he;refine ⟨I2.reports _ _ _ _ _ _ _,?_,?_⟩
    · show wrap64 ((stGo x A (stL x A)).1.sc+1)=_
      rw [L2.sc,hk];unfold wrap64;omega
    · show k+1<=(stGo x A (stL x A)).1.queue.length
      obtain ⟨l,e⟩:=L2.qu;rw [e,qaB];omega
   have hrec:=fun he:stE x A=0=>zvB f (stW x A) (k+1) (key he).1 (key he).2.1 (key he).2.2 (by omega)
   refine ⟨⟨k,hk,by omega,Or.inr ⟨A,hA,by omega,by omega,I.fwok.wl,s1,fun he=>⟨(key he).2.1,(hrec he).1⟩⟩⟩,fun hz=>?_⟩
   rw [zvC hk hA]at hz ⊢
   by_cases he:stE x A=0
   · rw [if_pos he]at hz ⊢;exact (hrec he).2 hz
   · rw [if_neg he]at hz;exact absurd hz he
theorem znh{h:Hp}:∀ (rs:List Int) (x:Wk) (acc:List Int),Inv h x->(∀ r∈rs,0<=r/\r<18446744073709551616)->zot x rs/\((za5 x acc rs).2.2=0->Inv h (za5 x acc rs).1/\Later x (za5 x acc rs).1/\(za5 x acc rs).2.1.length=acc.length+rs.length)
 | [],x,acc,I,_=>⟨trivial,fun _=>⟨I,Later.refl x,rfl⟩⟩
 | r::rs,x,acc,I,hl=>by
  have hrec:∀ he:evE x r=0,_:=fun he=>znh rs (evW x r) (acc++[evA x r]) (I.forward he).1 (fun q hq=>hl q (qaH _ hq))
  refine ⟨⟨I.fwok,hl r (qbe ..),fun he=>(hrec he).1⟩,fun hz=>?_⟩
  rw [za5]at hz ⊢
  by_cases he:evE x r=0
  · rw [if_pos he]at hz ⊢
    obtain ⟨I2,L2,e2⟩:=(hrec he).2 hz;refine ⟨I2,(I.forward he).2.trans L2,?_⟩;rw [e2];simp only [qaB,qaM,qbO];omega
  · rw [if_neg he]at hz;exact absurd hz he
theorem zlb{h:Hp}(h1:okH h=true):Inv h (zdx h):=by
 refine ⟨h1,rfl,rfl,rfl,rfl,rfl,by show (List.map _ _).length=_;rw [qai],fun t ht=>(by cases ht),fun k g0 hg hn=>?_,qa8 _,fun a ha=>Or.inl rfl,fun q hq=>(by cases hq),fun q hq=>(by cases hq),?_⟩
 · refine ⟨if g0.kind=1/\0<g0.pins then ⟨g0.kind,1-h.space,g0.used,g0.pins⟩ else g0,?_,?_,?_⟩
   · show (List.map _ _)[k]?=_;rw [qbo,hg];rfl
   · split <;> rfl
   · split <;> rfl
 · show 0+_<=_
   have:=qbz (zcj (zdx h)) (zag h)
   omega
theorem zi7(x:Wk)(a:Int):(zax x a).h.pw=x.h.pw/\(zax x a).h.np=x.h.np/\(zax x a).h.pages=x.h.pages/\(zax x a).h.space=x.h.space/\(zax x a).taken=x.taken/\(zax x a).queue=x.queue/\(zax x a).old=x.old/\(zax x a).h.bump=x.h.bump:=by
 unfold zax;split <;> exact ⟨rfl,rfl,rfl,rfl,rfl,rfl,rfl,rfl⟩
theorem zvp(x:Wk)(a b:Int):zpN (zax x a) b=zpN x b:=by
 obtain ⟨e1,e2,e3,e4,e5,e6,-,-⟩:=zi7 x a;unfold zpN zep;rw [e1,e2,e3,e4,e5,e6]
theorem zn2{h:Hp}:∀ (l:List Int) (x:Wk),l.Pairwise (fun a b=>a+osz h a<=b)->(∀ a∈l,a∈zag h)->x.h.words.length=h.words.length->(∀ a∈l,zpN x a=true->evWd x a=zas h.words a)->(l.foldl zax x).h.words.length=h.words.length
 | [],x,_,_,e,_=>e
 | a::l,x,hp,hm,e,hev=>by
  obtain ⟨p1,p2⟩:=List.pairwise_cons.1 hp;rw [qb7];by_cases hb:zpN x a=true
  · have h1:=hev a (qbe ..) hb;have ha:=hm a (qbe ..);obtain ⟨e1,e2,e3,-⟩:=zi2 ha h1;obtain ⟨i,j,g,b⟩:=zam ha;have hpos:=b.pos;have hwl:=b.wl;have hln:((zl3 x a).length:Int)=osz h a:=by unfold zl3;rw [qaM,qbc];omega
    have hok:okA x.h.words.length a (zl3 x a).length=true:=zaE.2 (by omega)
    have hW:(zax x a).h.words=zaF x.h.words a (zl3 x a):=by unfold zax;rw [if_pos hb]
    refine zn2 l _ p2 (fun c hc=>hm c (qaH _ hc)) (by rw [hW,zd1 hok];exact e) (fun c hc hf=>?_)
    rw [zvp]at hf;have h2:=hev c (qaH _ hc) hf;have h3:=p1 c hc;rw [<-h2];unfold evWd;rw [hW,za9 hok (by omega)]
  · have hW:zax x a=x:=by unfold zax;rw [if_neg hb]
    rw [hW];exact zn2 l x p2 (fun c hc=>hm c (qaH _ hc)) e (fun c hc hf=>hev c (qaH _ hc) hf)
theorem Inv.fill{h:Hp}{x:Wk}(I:Inv h x):(zcO x).h.words.length=h.words.length:=by
 unfold zcO;rw [I.old];refine zn2 _ x (zdU h) (fun a ha=>ha) I.wl (fun a ha hf=>?_)
 unfold zpN at hf;simp only [qae,qao,qaf]at hf;rcases I.un a ha with c | ⟨-,-,c3⟩
 · exact c
 · rw [I.pw,I.np]at hf;rw [c3]at hf;exact absurd hf.1 (by decide)
structure Wd where
 h:Hp
 st:List Int
 wk:List Int
def bgB(h:Hp)(k:Nat):Bool:=decide ((h.pages.getD k Pg.zero).kind=1)&&decide (0<(h.pages.getD k Pg.zero).pins)
def bgPs(h:Hp):Nat->List Pg
 | 0=>h.pages
 | k+1=>if bgB h k then (bgPs h k).set k ⟨(h.pages.getD k Pg.zero).kind,1-h.space,(h.pages.getD k Pg.zero).used,(h.pages.getD k Pg.zero).pins⟩ else bgPs h k
theorem zj0(h:Hp):∀ k,(bgPs h k).length=h.pages.length
 | 0=>rfl
 | k+1=>by rw [bgPs];split <;> simp [zj0 h k]
theorem zrw(h:Hp):∀ (k j:Nat) (g:Pg),h.pages[j]?=some g->(bgPs h k)[j]?=some (if j<k/\g.kind=1/\0<g.pins then ⟨g.kind,1-h.space,g.used,g.pins⟩ else g)
 | 0,j,g,hg=>by rw [if_neg (by omega)];exact hg
 | k+1,j,g,hg=>by
  have ih:=zrw h k j g hg;have hj:=(qak.1 hg).1;rw [bgPs];by_cases hb:bgB h k=true
  · rw [if_pos hb,qaW,zj0];unfold bgB at hb;simp only [qae,qaa]at hb;by_cases e:k=j
    · subst e;rw [zav hg]at hb ⊢
      rw [if_pos rfl,if_pos hj,if_pos ⟨by omega,hb.1,hb.2⟩]
    · rw [if_neg e,ih];by_cases c:j<k/\g.kind=1/\0<g.pins
      · rw [if_pos c,if_pos ⟨by omega,c.2⟩]
      · rw [if_neg c,if_neg (fun c2=>c ⟨by omega,c2.2⟩)]
  · rw [if_neg hb,ih];by_cases c:j<k/\g.kind=1/\0<g.pins
    · rw [if_pos c,if_pos ⟨by omega,c.2⟩]
    · rw [if_neg c,if_neg];rintro ⟨c1,c2⟩;by_cases e:j=k
      · subst e;apply hb
        unfold bgB;rw [zav hg];simp [c2]
      · exact c ⟨by omega,c2⟩
theorem zwK(h:Hp):bgPs h h.pages.length=(zdx h).h.pages:=by
 apply qbr
 intro j;show _=(List.map _ h.pages)[j]?
 rw [qbo];cases hg:h.pages[j]? with
 | none=>
  have:(bgPs h h.pages.length)[j]?=none:=by
   rw [qcx,zj0];exact qcx.1 hg
  rw [this];rfl
 | some g=>
  rw [zrw h _ j g hg];have hj:=(qak.1 hg).1;simp only [qbH];by_cases c:g.kind=1/\0<g.pins
  · rw [if_pos ⟨hj,c⟩,if_pos c]
  · rw [if_neg (fun c2=>c c2.2),if_neg c]
def zkV(x:Wk)(k:Nat):Wk:=(x.old.take k).foldl zax x
theorem zrm{x:Wk}{k:Nat}{a:Int}(h:x.old[k]?=some a):zkV x (k+1)=zax (zkV x k) a:=by
 unfold zkV;rw [zbk h,List.foldl_append];rfl
theorem zkP:∀ (l:List Int) (x:Wk),(l.foldl zax x).h.pw=x.h.pw/\(l.foldl zax x).h.np=x.h.np/\(l.foldl zax x).h.pages=x.h.pages/\(l.foldl zax x).h.space=x.h.space/\(l.foldl zax x).taken=x.taken/\(l.foldl zax x).queue=x.queue/\(l.foldl zax x).old=x.old/\(l.foldl zax x).h.bump=x.h.bump
 | [],x=>⟨rfl,rfl,rfl,rfl,rfl,rfl,rfl,rfl⟩
 | a::l,x=>by
  obtain ⟨e1,e2,e3,e4,e5,e6,e7,e8⟩:=zkP l (zax x a);have h:(zax x a).h.pw=x.h.pw/\(zax x a).h.np=x.h.np/\(zax x a).h.pages=x.h.pages/\(zax x a).h.space=x.h.space/\(zax x a).taken=x.taken/\(zax x a).queue=x.queue/\(zax x a).old=x.old/\(zax x a).h.bump=x.h.bump:=by
   unfold zax;split <;> exact ⟨rfl,rfl,rfl,rfl,rfl,rfl,rfl,rfl⟩
  obtain ⟨f1,f2,f3,f4,f5,f6,f7,f8⟩:=h;exact ⟨e1.trans f1,e2.trans f2,e3.trans f3,e4.trans f4,e5.trans f5,e6.trans f6,e7.trans f7,e8.trans f8⟩
theorem zub(xs:List Int)(a:Int)(l:List Int):(zaF xs a l).length<=xs.length:=by
 unfold zaF;split
 · rename_i hk;have h1:=qar hk;rw [zcH (by omega)];exact qam _
 · exact qa8 _
theorem encV_wb(n:Int):0<=encV 0 n 0/\encV 0 n 0<18446744073709551616:=by
 unfold encV;split
 · rename_i h;have:=zqs h (qb9 0)
   omega
 · omega
def frB(x:Wk)(k:Nat):Bool:=!decide ((x.h.pages.getD k Pg.zero).kind=0)&&decide ((x.h.pages.getD k Pg.zero).space=x.h.space)
def frPs(x:Wk):Nat->List Pg
 | 0=>x.h.pages
 | k+1=>if frB x k then (frPs x k).set k Pg.zero else frPs x k
def frWs(x:Wk):Nat->List Int
 | 0=>x.h.words
 | k+1=>if frB x k then splice (frWs x k) (k*x.h.pw.toNat) (List.replicate x.h.pw.toNat 0) else frWs x k
def frR(x:Wk):Nat->Int
 | 0=>x.r3
 | k+1=>if frB x k then wrap64 (frR x k+1) else frR x k
def freeW(x:Wk):Wk:={ x with h:={ x.h with pages:=frPs x x.h.pages.length,words:=frWs x x.h.pages.length },r3:=frR x x.h.pages.length }
theorem znY(x:Wk):∀ k,(frPs x k).length=x.h.pages.length
 | 0=>rfl
 | k+1=>by rw [frPs];split <;> simp [znY x k]
theorem zrk(x:Wk):∀ (k j:Nat),k<=j->(frPs x k)[j]?=x.h.pages[j]?
 | 0,_,_=>rfl
 | k+1,j,h=>by
  rw [frPs];split
  · rw [qbZ (by omega),zrk x k j (by omega)]
  · exact zrk x k j (by omega)
theorem zmu{k m n:Nat}{pw:Int}(h0:0<=pw)(hk:k<m)(hn:(n:Int)=m*pw):k*pw.toNat+pw.toNat<=n:=by
 obtain ⟨q,rfl⟩:∃ q:Nat,pw=q:=⟨pw.toNat,by omega⟩
 rw [qad];have h1:(k+1)*q<=m*q:=qaP _ (by omega)
 rw [qaJ,qa2]at h1;have h2:((m*q:Nat):Int)=n:=by rw [Int.natCast_mul];exact hn.symm
 omega
theorem znX(x:Wk)(h0:0<=x.h.pw)(hw:(x.h.words.length:Int)=x.h.pages.length*x.h.pw):∀ k,k<=x.h.pages.length->(frWs x k).length=x.h.words.length
 | 0,_=>rfl
 | k+1,hk=>by
  have ih:=znX x h0 hw k (by omega)
  rw [frWs];split
  · rw [zcH (by rw [qbc,ih];exact zmu h0 (by omega) hw)];exact ih
  · exact ih
def zmV(x:Wk)(a:Int):Int:=if a∈x.queue then a else tgtV (evWd x a).toNat
def zjx(x:Wk)(a:Int):Int:=if a=0 then 0 else zmV x a
def zec(x:Wk)(r a:Int):Int:=if a=0 then r else if zmV x a=0 then wrap64 (r+1) else r
def zn7(h:Hp)(st:List Int):Wk×List Int×Int:=za5 (zdx h) [] st
def zl4(h:Hp)(st:List Int):Wk×Int:=allV ((zag h).length+1) (zn7 h st).1
def zcv(h:Hp)(st wk:List Int):Wk:={ (zl4 h st).1 with r4:=wk.foldl (zec (zl4 h st).1) (zl4 h st).1.r4 }
def zrq(h:Hp)(st wk:List Int):Wk:=freeW (zcO (zcv h st wk))
def zfi(h:Hp)(st wk:List Int):Int:=if okH h then (if zh0 h st&&zh0 h wk then (if (zn7 h st).2.2=0 then (zl4 h st).2 else (zn7 h st).2.2) else 19) else 1
def zrt(h:Hp)(st wk:List Int):Hp:={ (zrq h st wk).h with space:=1-(zrq h st wk).h.space,bump:=((zrq h st wk).taken.getLast?).getD (-1) }
def zrr(h:Hp)(st:List Int):List Int:=(zn7 h st).2.1
def zrs(h:Hp)(st wk:List Int):List Int:=wk.map (zjx (zl4 h st).1)
def putV(x:Wd)(k n m:Int):Wd:=⟨zho x.h k n m,x.st++[zje x.h k n m],x.wk⟩
inductive MStep:Wd->Wd->Prop
 | none (x:Wd):MStep x x
 | put (x:Wd) (k n m:Int):1<=k->k<=3->0<=n->n<=100->0<=m->m<4096->zc2 x.h k n m=0->MStep x (putV x k n m)
 | link (x:Wd) (a i b:Int):a∈0::(x.st++x.wk)->getE x.h a=0->0<=i->i<(getH x.h a).n->0<=b->b<18446744073709551616->(ptrB (getH x.h a).k (getH x.h a).n (getH x.h a).m i=true->b∈0::(x.st++x.wk))->MStep x { x with h:=setV x.h a i b }
 | pin (x:Wd) (a:Int) (i:Nat) (g:Pg) (p:Int):a∈0::(x.st++x.wk)->ofE x.h.pw x.h.np a=0->ofI x.h.pw x.h.np a=i->x.h.pages[i]?=some g->((0<g.pins/\p=g.pins-1)\/(p=g.pins+1/\(0<g.pins\/g.kind=2\/(zaS x.h.pages:Int)<x.h.np / 4)))->MStep x { x with h:={ x.h with pages:=x.h.pages.set i ⟨g.kind,g.space,g.used,p⟩ } }
 | drop (x:Wd) (i:Nat) (r:Int) (b:Bool):x.st[i]?=some r->MStep x ⟨x.h,x.st.take i++x.st.drop (i+1),if b then x.wk++[r] else x.wk⟩
 | collect (x:Wd):zfi x.h x.st x.wk=0->MStep x ⟨zrt x.h x.st x.wk,zrr x.h x.st,zrs x.h x.st x.wk⟩
 | dup (x:Wd) (a:Int):a∈0::(x.st++x.wk)->MStep x ⟨x.h,x.st++[a],x.wk⟩
inductive Made:Nat->Wd->Prop
 | empty (pw np:Int):(pw=16\/pw=20\/pw=32)->(np=8\/np=12\/np=16\/np=20\/np=24)->Made 0 ⟨zl1 pw np,[],[]⟩
 | step (n:Nat) (x y:Wd):Made n x->MStep x y->Made (n+1) y
theorem mem_u64{st wk:List Int}(h1:WB st)(h2:WB wk){a:Int}(h:a∈0::(st++wk)):0<=a/\a<18446744073709551616:=by
 simp only [qat,qas]at h;rcases h with rfl | h | h
 · exact ⟨by omega,by omega⟩
 · exact h1 _ h
 · exact h2 _ h
theorem zwk{pw np a:Int}(h:ofE pw np a=0):confB pw np=true/\0<=ofI pw np a/\ofI pw np a<np:=by
 have h1:confB pw np=true:=by
  cases hv:confB pw np with
  | false=>have:=(zwj (a:=a) hv).2.2;omega
  | true=>rfl
 have h2:inAr pw np a=true:=by
  cases hi:inAr pw np a with
  | false=>have:=(ze5 h1 hi).2.2;omega
  | true=>rfl
 have h3:=zai h1;refine ⟨h1,zte h,?_⟩;rw [(zgO h1 h2).1];unfold inAr at h2;have h4:=qar h2;exact qco (by omega) (by omega)
structure Lens (n:Nat) (x:Wd):Prop where
 conf:confB x.h.pw x.h.np=true
 words:(x.h.words.length:Int)=x.h.np*x.h.pw
 pages:(x.h.pages.length:Int)=x.h.np
 st:WB x.st
 wk:WB x.wk
 stn:x.st.length<=n
 wkn:x.wk.length<=n
 pins:∀ g∈x.h.pages,0<=g.pins/\g.pins<=n
theorem ztx{h:Hp}{a i:Int}(hg:getE h a=0)(h0:0<=i)(h1:i<(getH h a).n):zi8 h a i=0/\okA h.words.length (a+1+i) 1=true:=by
 obtain ⟨g1,g2,g3,-,-,g6,-,-,-,-⟩:=zrh hg;obtain ⟨k,j,g,b⟩:=zfX g2;have h2:=b.wl;have h3:osz h a=(atH h a).n+1:=rfl
 rw [g3]at h1;have hk:okA h.words.length (a+1+i) 1=true:=zaE.2 ⟨by omega,by omega⟩
 refine ⟨?_,hk⟩;unfold zi8;rw [if_pos hg,if_neg (by rw [g3];omega)]
 unfold zkF;rw [if_pos hk]
theorem Lens.up{n:Nat}{x:Wd}(h:Lens n x):Lens (n+1) x :=
 ⟨h.conf,h.words,h.pages,h.st,h.wk,by have:=h.stn;omega,by have:=h.wkn;omega,fun g hg=>by have:=h.pins g hg;omega⟩
theorem zto{pw np:Int}(h1:pw=16\/pw=20\/pw=32)(h2:np=8\/np=12\/np=16\/np=20\/np=24):Lens 0 ⟨zl1 pw np,[],[]⟩:=by
 have hc:confB pw np=true:=conf_mk (by omega)
 have hp:=conf_prod hc;rw [(znM hc).1];refine ⟨hc,?_,?_,WB.nil,WB.nil,qam _,qam _,fun g hg=>?_⟩
 · show ((List.replicate (np*pw).toNat (0:Int)).length:Int)=np*pw
   rw [qbc];omega
 · show ((List.replicate np.toNat Pg.zero).length:Int)=np
   rw [qbc];omega
 · obtain ⟨-,rfl⟩:=List.mem_replicate.1 hg;exact ⟨by decide,by decide⟩
theorem zu9{n:Nat}{x:Wd}(h:Lens n x){a i b:Int}(hg:getE x.h a=0)(h0:0<=i)(h1:i<(getH x.h a).n)(b0:0<=b)(b1:b<18446744073709551616):Lens (n+1) { x with h:=setV x.h a i b }:=by
 obtain ⟨h2,h3⟩:=ztx hg h0 h1;have e:setV x.h a i b={ x.h with words:=zaF x.h.words (a+1+i) [b] }:=by unfold setV;exact if_pos h2
 rw [e];have hl:(zaF x.h.words (a+1+i) [b]).length=x.h.words.length:=zd1 (l:=[b]) h3
 refine ⟨h.conf,?_,h.pages,h.st,h.wk,by have:=h.stn;show x.st.length<=_;omega,by have:=h.wkn;show x.wk.length<=_;omega,fun g hg=>by have:=h.pins g hg;omega⟩
 show ((zaF x.h.words (a+1+i) [b]).length:Int)=x.h.np*x.h.pw
 rw [hl];exact h.words
theorem zwr{n:Nat}{x:Wd}(h:Lens n x){i:Nat}{g:Pg}{p:Int}(hg:x.h.pages[i]?=some g)(hp:(0<g.pins/\p=g.pins-1)\/p=g.pins+1):Lens (n+1) { x with h:={ x.h with pages:=x.h.pages.set i ⟨g.kind,g.space,g.used,p⟩ } }:=by
 have h1:=h.pins g (qaK hg);refine ⟨h.conf,h.words,?_,h.st,h.wk,by have:=h.stn;show x.st.length<=_;omega,by have:=h.wkn;show x.wk.length<=_;omega,fun f hf=>?_⟩
 · show ((x.h.pages.set i _).length:Int)=x.h.np
   rw [List.length_set];exact h.pages
 · rcases List.mem_or_eq_of_mem_set hf with h2 | rfl
   · have:=h.pins f h2;omega
   · show 0<=p/\p<=((n+1:Nat):Int);omega
theorem zva{n:Nat}{x:Wd}(h:Lens n x){i:Nat}{r:Int}(b:Bool)(hr:x.st[i]?=some r):Lens (n+1) ⟨x.h,x.st.take i++x.st.drop (i+1),if b then x.wk++[r] else x.wk⟩:=by
 have hrb:=h.st r (qaK hr);refine ⟨h.conf,h.words,h.pages,fun y hy=>?_,fun y hy=>?_,?_,?_,fun g hg=>by have:=h.pins g hg;omega⟩
 · rcases qas.1 hy with h2 | h2
   · exact h.st y (qcn h2)
   · exact h.st y (qcr h2)
 · cases b with
   | false=>exact h.wk y hy
   | true=>
    rcases qas.1 hy with h2 | h2
    · exact h.wk y h2
    · rw [qaw.1 h2];exact hrb
 · have:=h.stn
   show (x.st.take i++x.st.drop (i+1)).length<=n+1
   rw [qaB,qau,qaG];omega
 · have:=h.wkn
   cases b with
   | false=>show x.wk.length<=_;omega
   | true=>show (x.wk++[r]).length<=_;rw [qaB];simp;omega
theorem zws{n:Nat}{x:Wd}(h:Lens n x){a:Int}(ha:a∈0::(x.st++x.wk)):Lens (n+1) ⟨x.h,x.st++[a],x.wk⟩:=by
 have hab:=mem_u64 h.st h.wk ha;refine ⟨h.conf,h.words,h.pages,fun y hy=>?_,h.wk,?_,by have:=h.wkn;show x.wk.length<=_;omega,fun g hg=>by have:=h.pins g hg;omega⟩
 · rcases qas.1 hy with h2 | h2
   · exact h.st y h2
   · rw [qaw.1 h2];exact hab
 · have:=h.stn
   show (x.st++[a]).length<=_
   rw [qaB];simp;omega
def zsQ:Prop:=∀ (n:Nat) (x:Wd) (k l m:Int),n<=400->Made n x->Lens n x->1<=k->k<=3->0<=l->l<=100->0<=m->m<4096->zc2 x.h k l m=0->Lens (n+1) (putV x k l m)
def zjo:Prop:=∀ (n:Nat) (x:Wd),n<=400->Made n x->Lens n x->zfi x.h x.st x.wk=0->Lens (n+1) ⟨zrt x.h x.st x.wk,zrr x.h x.st,zrs x.h x.st x.wk⟩
theorem zwt(hP:zsQ)(hC:zjo):∀ n x,Made n x->n<=400->Lens n x:=by
 intro n x hm;induction hm with
 | empty pw np h1 h2=>exact fun _=>zto h1 h2
 | step n x y hm hs ih=>
  intro hn;have h:=ih (by omega)
  cases hs with
  | none=>exact h.up
  | put k l m h1 h2 h3 h4 h5 h6 h7=>exact hP n x k l m (by omega) hm h h1 h2 h3 h4 h5 h6 h7
  | link a i b h1 h2 h3 h4 h5 h6 h7=>exact zu9 h h2 h3 h4 h5 h6
  | pin a i g p h1 h2 h3 h4 h5=>exact zwr h h4 (by rcases h5 with h5 | h5;exact Or.inl h5;exact Or.inr h5.1)
  | drop i r b h1=>exact zva h b h1
  | collect h1=>exact hC n x (by omega) hm h h1
  | dup a h1=>exact zws h h1
def PinL(B:Int)(ps:List Pg):Prop:=∀ g∈ps,0<=g.pins/\g.pins<=B
theorem PinL.nil(B:Int):PinL B []:=fun g h=>by cases h
theorem PinL.set{B:Int}{ps:List Pg}(h:PinL B ps){g:Pg}(hg:0<=g.pins/\g.pins<=B)(i:Nat):PinL B (ps.set i g):=fun f hf=>by
 rcases List.mem_or_eq_of_mem_set hf with h2 | rfl
 · exact h f h2
 · exact hg
theorem PinL.getD{B:Int}{ps:List Pg}(h:PinL B ps)(hB:0<=B)(i:Nat):0<=(ps.getD i Pg.zero).pins/\(ps.getD i Pg.zero).pins<=B:=by
 rw [qay];cases e:ps[i]? with
 | none=>exact ⟨qb9 _,hB⟩
 | some g=>exact h g (qaK e)
theorem PinL.use{B:Int}{ps:List Pg}(h:PinL B ps)(hB:0<=B)(j:Nat)(n:Int):PinL B (zgC ps j n) :=
 h.set (g:=⟨(ps.getD j Pg.zero).kind,(ps.getD j Pg.zero).space,(ps.getD j Pg.zero).used+n,(ps.getD j Pg.zero).pins⟩) (h.getD hB j) j
theorem PinL.puts{B:Int}{b:Pg}(hb:0<=b.pins/\b.pins<=B)(k:Nat)(ps:List Pg)(i:Nat)(h:PinL B ps):PinL B (put ps i k b):=fun g hg=>by
 unfold put at hg;rcases qas.1 hg with h1 | h1
 · rcases qas.1 h1 with h2 | h2
   · exact h g (qcn h2)
   · obtain ⟨-,rfl⟩:=List.mem_replicate.1 h2;exact hb
 · exact h g (qcr h1)
theorem PinL.take{B:Int}{ps:List Pg}(h:PinL B ps)(hB:0<=B)(i k:Int){a b:Pg}(ha:a.pins=0)(hb:b.pins=0):PinL B (zf5 ps i k a b):=by
 unfold zf5;split
 · split
   · exact (PinL.puts (by rw [hb];omega) _ _ _ h).set (by rw [ha];omega) _
   · exact PinL.nil B
 · exact PinL.nil B
theorem PinL.spc{B:Int}{ps:List Pg}(h:PinL B ps)(i k:Nat)(sp:Int):PinL B (spc ps i k sp):=fun g hg=>by
 obtain ⟨j,hj,rfl⟩:=List.mem_mapIdx.1 hg;have:=h ps[j] (qcp hj)
 split <;> exact this
theorem zuG{B:Int}(hB:0<=B){x:Wk}(h:PinL B x.h.pages)(a:Int):PinL B (evW x a).h.pages:=by
 unfold evW;split
 · exact h
 · exact h
 · exact h
 · exact h.spc _ _ _
 · show PinL B (zgC (plPs x (evN x a)) _ _)
   refine PinL.use ?_ hB _ _;unfold plPs;split
   · exact h
   · unfold zcl;split
     · exact h.take hB _ _ rfl rfl
     · exact PinL.nil B
 · exact PinL.nil B
theorem zs9{B:Int}(hB:0<=B){x:Wk}(h:PinL B x.h.pages)(p:Int):PinL B (zc9 x p).h.pages:=zuG hB h _
theorem zsh{B:Int}(hB:0<=B):∀ (l:List Int) (x:Wk) (A:Int),PinL B x.h.pages->PinL B (stGo x A l).1.h.pages
 | [],_,_,h=>h
 | i::r,x,A,h=>by
  rw [stGo];split
  · exact zsh hB r _ A (zs9 hB h _)
  · exact PinL.nil B
theorem zsi{B:Int}(hB:0<=B):∀ (f:Nat) (x:Wk),PinL B x.h.pages->PinL B (allV f x).1.h.pages
 | 0,_,h=>h
 | f+1,x,h=>by
  unfold allV;split
  · exact h
  · split
    · exact zsi hB f _ (zsh hB _ x _ h)
    · exact PinL.nil B
theorem zoT{B:Int}(hB:0<=B):∀ (rs:List Int) (x:Wk) (acc:List Int),PinL B x.h.pages->PinL B (za5 x acc rs).1.h.pages
 | [],_,_,h=>h
 | r::rs,x,acc,h=>by
  rw [za5];split
  · exact zoT hB rs _ _ (zuG hB h r)
  · exact PinL.nil B
theorem zuH{B:Int}{h:Hp}(hp:PinL B h.pages):PinL B (zdx h).h.pages:=fun g hg=>by
 obtain ⟨f,hf,rfl⟩:=qax.1 (show g∈List.map _ h.pages from hg)
 have:=hp f hf
 split <;> exact this
theorem zkU:∀ (l:List Int) (x:Wk),(l.foldl zax x).h.pages=x.h.pages/\(l.foldl zax x).h.pw=x.h.pw/\(l.foldl zax x).h.np=x.h.np
 | [],_=>⟨rfl,rfl,rfl⟩
 | a::l,x=>by
  obtain ⟨e1,e2,e3⟩:=zkU l (zax x a);obtain ⟨f1,f2,f3,-⟩:=zi7 x a;exact ⟨e1.trans f3,e2.trans f1,e3.trans f2⟩
theorem zno{B:Int}(hB:0<=B){x:Wk}(h:PinL B x.h.pages):∀ k,PinL B (frPs x k)
 | 0=>h
 | k+1=>by
  rw [frPs];split
  · exact (zno hB h k).set ⟨qb9 _,hB⟩ k
  · exact zno hB h k
theorem zwV(n:Nat):0<=tgtV n/\tgtV n<18446744073709551616:=by
 unfold tgtV;split
 · rename_i h;have:=zoZ h
   omega
 · omega
theorem evA_in{h:Hp}{x:Wk}(I:Inv h x){a:Int}(ha:0<=a/\a<18446744073709551616)(he:evE x a=0):0<=evA x a/\evA x a<18446744073709551616:=by
 have I2:=(I.forward he).1;unfold evA;split
 · exact ha
 · exact zwV _
 · exact ha
 · exact ha
 · rename_i h7;have hq:plA x (evN x a)∈(evW x a).queue:=by
    have e:evW x a=zbq x a:=by unfold evW;rw [h7];rfl
    rw [e];exact qbq _ (qaw.2 rfl)
   have:=I2.queue_bd hq
   omega
 · omega
theorem zsd{h:Hp}:∀ (rs:List Int) (x:Wk) (acc:List Int),Inv h x->WB rs->WB acc->WB (za5 x acc rs).2.1
 | [],_,_,_,_,h=>h
 | r::rs,x,acc,I,hl,ha=>by
  rw [za5];by_cases he:evE x r=0
  · rw [if_pos he];refine zsd rs _ _ (I.forward he).1 (fun q hq=>hl q (qaH _ hq)) (fun q hq=>?_)
    rcases qas.1 hq with h1 | h1
    · exact ha q h1
    · rw [qaw.1 h1];exact evA_in I (hl r (qbe ..)) he
  · rw [if_neg he];exact WB.nil
theorem zn6:zjo:=by
 intro n x hn hm L hc;have hE:okH x.h=true/\(zn7 x.h x.st).2.2=0/\(zl4 x.h x.st).2=0:=by
  unfold zfi at hc;split at hc
  · rename_i h1;split at hc
    · split at hc
      · rename_i h3;exact ⟨h1,h3,hc⟩
      · rename_i h3;exact absurd hc h3
    · exact absurd hc (by decide)
  · exact absurd hc (by decide)
 obtain ⟨h1,h2,h3⟩:=hE;obtain ⟨-,hr⟩:=znh x.st (zdx x.h) [] (zlb h1) L.st;obtain ⟨I7,L7,e7⟩:=hr h2;have hsc7:(za5 (zdx x.h) [] x.st).1.sc=((0:Nat):Int):=L7.sc
 obtain ⟨-,ha⟩:=zvB ((zag x.h).length+1) (za5 (zdx x.h) [] x.st).1 0 I7 hsc7 (qa8 _) (by omega)
 have I8:Inv x.h (zl4 x.h x.st).1:=ha h3;have I9:Inv x.h (zcv x.h x.st x.wk):=I8.reports _ _ _ _ _ _ _;have hB:(0:Int)<=n:=by omega
 have p8:PinL n (zl4 x.h x.st).1.h.pages:=zsi hB _ _ (zoT hB _ _ _ (zuH L.pins));obtain ⟨f1,f2,f3⟩:=zkU (zcv x.h x.st x.wk).old (zcv x.h x.st x.wk);have hfl:=I9.fill;have hpl:(zcO (zcv x.h x.st x.wk)).h.pages.length=x.h.pages.length:=by
  rw [show (zcO (zcv x.h x.st x.wk)).h.pages=(zcv x.h x.st x.wk).h.pages from f1];exact I9.pl
 have hpw:(zcO (zcv x.h x.st x.wk)).h.pw=x.h.pw:=(show (zcO (zcv x.h x.st x.wk)).h.pw=(zcv x.h x.st x.wk).h.pw from f2).trans I9.pw
 have hnp:(zcO (zcv x.h x.st x.wk)).h.np=x.h.np:=(show (zcO (zcv x.h x.st x.wk)).h.np=(zcv x.h x.st x.wk).h.np from f3).trans I9.np
 have hcf:=zai L.conf;have hfw:=znX (zcO (zcv x.h x.st x.wk)) (by rw [hpw];omega) (by rw [hfl,hpl,hpw,L.pages];exact L.words) (zcO (zcv x.h x.st x.wk)).h.pages.length (qam _)
 refine ⟨?_,?_,?_,?_,fun a ha=>?_,?_,?_,?_⟩
 · show confB (zcO (zcv x.h x.st x.wk)).h.pw (zcO (zcv x.h x.st x.wk)).h.np=true
   rw [hpw,hnp];exact L.conf
 · show ((frWs (zcO (zcv x.h x.st x.wk)) (zcO (zcv x.h x.st x.wk)).h.pages.length).length:Int)=(zcO (zcv x.h x.st x.wk)).h.np*(zcO (zcv x.h x.st x.wk)).h.pw
   rw [hfw,hfl,hpw,hnp];exact L.words
 · show ((frPs (zcO (zcv x.h x.st x.wk)) (zcO (zcv x.h x.st x.wk)).h.pages.length).length:Int)=(zcO (zcv x.h x.st x.wk)).h.np
   rw [znY,hpl,hnp];exact L.pages
 · exact zsd x.st (zdx x.h) [] (zlb h1) L.st WB.nil
 · obtain ⟨b,hb,rfl⟩:=qax.1 ha;have hbb:=L.wk b hb;unfold zjx zmV;split
   · omega
   · split
     · exact hbb
     · exact zwV _
 · have:=L.stn
   show (za5 (zdx x.h) [] x.st).2.1.length<=_
   rw [e7];simp;omega
 · have:=L.wkn
   show (List.map _ x.wk).length<=_
   rw [qai];omega
 · intro g hg;have:=zno hB (x:=zcO (zcv x.h x.st x.wk)) (by rw [show (zcO (zcv x.h x.st x.wk)).h.pages=(zcv x.h x.st x.wk).h.pages from f1];exact p8) _ g hg
   omega
theorem zu2{pw n:Int}(h1:16<=pw)(h2:pw<=64)(h3:pw / 4<n)(h4:n<=4*pw):zd9 pw n=(n+pw-1) / pw:=by
 have hd:∀ k:Int,(k-1)*pw<n->n<=k*pw->(n+pw-1) / pw=k:=by
  intro k a b;have e1:(k-1)*pw=k*pw-pw:=by rw [Int.sub_mul,qbj]
  have e2:(n+pw-1)=(n+pw-1-k*pw)+k*pw:=by omega
  rw [e2,qcq _ _ (by omega),qcB (by omega) (by omega)];omega
 unfold zd9;rw [if_neg (by omega)]
 split
 · rw [hd 1 (by omega) (by omega)]
 · split
   · rw [hd 2 (by omega) (by omega)]
   · split
     · rw [hd 3 (by omega) (by omega)]
     · rw [hd 4 (by omega) (by omega)]
def zcA(n:Int):Bool:=decide (n=0\/n=1)
def zpH(x:Pg):Bool:=decide (x.space=0/\x.used=0/\x.pins=0)
def zdS(pw:Int)(x:Pg):Bool:=zcA x.space&&decide (0<=x.used/\x.used<=pw)&&zeO x.pins
def zb7(pw np:Int)(ps:List Pg):Nat->Int->Bool
 | 0,_=>false
 | m+1,b=>if (ps.getD m Pg.zero).kind=2 then decide (b<zau pw np (ps.getD m Pg.zero).used) else zb7 pw np ps m (b+1)
def zfU(pw np:Int)(ps:List Pg)(i:Nat):Bool:=zb7 pw np ps i 1
def zd2(pw np:Int)(ps:List Pg)(i:Nat)(x:Pg):Bool:=decide (x.used=0/\x.pins=0)&&zfU pw np ps i
theorem zwo(pw np n:Int):zau pw np n<=4:=by
 unfold zau zd9;repeat' split
 all_goals omega
def zcL(pw np:Int)(ps:List Pg)(i:Nat)(x:Pg):Bool :=
 zcA x.space&&decide (1<=zau pw np x.used)&&zeO x.pins&&decide ((i:Int)+zau pw np x.used<=ps.length)&&zbI x.space ((ps.drop (i+1)).take ((zau pw np x.used).toNat-1))
def zbG(pw np:Int)(ps:List Pg)(i:Nat)(x:Pg):Bool :=
 if x.kind=0 then zpH x else if x.kind=1 then zdS pw x else if x.kind=2 then zcL pw np ps i x else if x.kind=3 then zd2 pw np ps i x else false
def zaI(pw np:Int)(ps:List Pg):Nat->List Pg->Bool
 | _,[]=>true
 | i,x::r=>zbG pw np ps i x&&zaI pw np ps (i+1) r
def zbt(pw np:Int)(ps:List Pg):Bool:=zaI pw np ps 0 ps
theorem zsY{pw np:Int}{ps:List Pg}{i:Nat}{x:Pg}(h:ps[i]?=some x):zaI pw np ps i (ps.drop i)=(zbG pw np ps i x&&zaI pw np ps (i+1) (ps.drop (i+1))):=by
 obtain ⟨hi,rfl⟩:=qak.1 h;rw [qaU hi,zaI]
theorem zun{pw np:Int}{ps:List Pg}{i:Nat}(h:ps.length<=i):zaI pw np ps i (ps.drop i)=true:=by
 rw [qbp h,zaI]
def zh1(pw np:Int)(nw:Nat)(ps:List Pg)(sp b:Int):Bool :=
 confB pw np&&decide ((nw:Int)=np*pw)&&decide ((ps.length:Int)=np)&&zcA sp&&zfk ps b&&zbt pw np ps
theorem zsf{ps:List Pg}{i k:Nat}{x y:Pg}(h:i+k<=ps.length)(h1:1<=k):(put ps i k y).set i x=put (ps.set i x) (i+1) (k-1) y:=by
 have hl:(ps.set i x).length=ps.length:=List.length_set
 apply qbr
 intro j;rw [qaW];have hp:(put ps i k y).length=ps.length:=zeo h
 by_cases hj:i=j
 · rw [if_pos hj,if_pos (by omega),zdo (by omega) (Or.inr (by omega)),qaW,if_pos hj,if_pos (by omega)]
 · rw [if_neg hj];by_cases h2:i+1<=j/\j<i+k
   · rw [zmq h (by omega) (by omega),zmq (by omega) h2.1 (by omega)]
   · rw [zdo h (by omega),zdo (by omega) (by omega),qaW,if_neg hj]
theorem zfy{sp:Int}:zcA sp=true↔0<=sp/\sp<=1:=by
 unfold zcA;rw [qaa];omega
theorem zgF(pw np:Int)(ps:List Pg):∀ (l:List Pg) (i:Nat),zaI pw np ps i l=true↔∀ j x,l[j]?=some x->zbG pw np ps (i+j) x=true
 | [],i=>by simp [zaI]
 | y::r,i=>by
  rw [zaI,qae,zgF pw np ps r (i+1)];constructor
  · rintro ⟨h1,h2⟩ j x hx;cases j with
    | zero=>simp at hx;subst hx;exact h1
    | succ j=>rw [qbg]at hx;have:=h2 j x hx;rwa [show i+1+j=i+(j+1) by omega]at this
  · intro h;refine ⟨h 0 y rfl,fun j x hx=>?_⟩
    have:=h (j+1) x (by rw [qbg];exact hx)
    rwa [show i+(j+1)=i+1+j by omega]at this
theorem zbb{pw np:Int}{ps:List Pg}:zbt pw np ps=true↔∀ i x,ps[i]?=some x->zbG pw np ps i x=true:=by
 unfold zbt;rw [zgF];simp only [qaL]
theorem zcf{sp:Int}{ps:List Pg}{i m:Nat}:zbI sp ((ps.drop i).take m)=true↔∀ t,i<=t->t<i+m->∀ z,ps[t]?=some z->z.kind=3/\z.space=sp:=by
 unfold zbI;rw [qaO];constructor
 · intro h t h1 h2 z hz;have hm:z∈(ps.drop i).take m:=by
    refine qaK (i:=t-i) ?_
    rw [qa6,if_pos (by omega),qa5,show i+(t-i)=t by omega];exact hz
   exact qar (h z hm)
 · intro h z hz;obtain ⟨j,hj⟩:=List.getElem?_of_mem hz;rw [qa6]at hj;split at hj
   · rename_i hjm;rw [qa5]at hj;exact qac (h (i+j) (by omega) (by omega) z hj)
   · cases hj
theorem zcp(pw np:Int)(ps:List Pg):∀ (t:Nat) (b:Int),zb7 pw np ps t b=true↔∃ l,l<t/\(ps.getD l Pg.zero).kind=2/\(∀ m,l<m->m<t->¬(ps.getD m Pg.zero).kind=2)/\b+(t-1-l:Int)<zau pw np (ps.getD l Pg.zero).used
 | 0,b=>by
  rw [zb7];constructor
  · intro h;cases h
  · rintro ⟨l,h,-⟩;omega
 | t+1,b=>by
  rw [zb7];by_cases h2:(ps.getD t Pg.zero).kind=2
  · rw [if_pos h2];constructor
    · intro h;have:=qar h
      exact ⟨t,by omega,h2,fun m a c=>by omega,by omega⟩
    · rintro ⟨l,h3,h4,h5,h6⟩;by_cases hl:l=t
      · subst hl;exact qac (by omega)
      · exact absurd h2 (h5 t (by omega) (by omega))
  · rw [if_neg h2,zcp pw np ps t (b+1)];constructor
    · rintro ⟨l,h3,h4,h5,h6⟩;refine ⟨l,by omega,h4,fun m a c=>?_,by omega⟩
      by_cases hm:m=t
      · subst hm;exact h2
      · exact h5 m a (by omega)
    · rintro ⟨l,h3,h4,h5,h6⟩;have hl:l≠t:=fun e=>h2 (e ▸ h4)
      exact ⟨l,by omega,h4,fun m a c=>h5 m a (by omega),by omega⟩
theorem zj8{pw np:Int}{ps:List Pg}{j:Nat}{x y:Pg}(h:zbt pw np ps=true)(hy:ps[j]?=some y)(hk:y.kind=0\/y.kind=1)(hx:x.kind=1)(hs:zdS pw x=true):zbt pw np (ps.set j x)=true:=by
 rw [zbb]at h ⊢
 have hjl:=(qak.1 hy).1;have hget:∀ t,(ps.set j x)[t]?=if j=t then some x else ps[t]?:=fun t=>by
  rw [qaW];by_cases e:j=t
  · subst e;rw [if_pos rfl,if_pos rfl,if_pos hjl]
  · rw [if_neg e,if_neg e]
 have hD:∀ t,¬j=t->(ps.set j x).getD t Pg.zero=ps.getD t Pg.zero:=fun t ht=>by rw [qay,qay,hget,if_neg ht]
 have hDj:(ps.set j x).getD j Pg.zero=x:=zav (by rw [hget,if_pos rfl])
 have hDy:ps.getD j Pg.zero=y:=zav hy
 have hk2:∀ t,(((ps.set j x).getD t Pg.zero).kind=2↔(ps.getD t Pg.zero).kind=2):=fun t=>by
  by_cases ht:j=t
  · subst ht;rw [hDj,hDy];constructor <;> intro c <;> omega
  · rw [hD t ht]
 intro i z hz;rw [hget]at hz;split at hz
 · cases hz;unfold zbG;rw [if_neg (by omega),if_pos hx]
   exact hs
 · rename_i hji;have hp:=h i z hz;unfold zbG at hp ⊢
   split
   · rename_i k0;rw [if_pos k0]at hp;exact hp
   · rename_i k0;rw [if_neg k0]at hp;split
     · rename_i k1;rw [if_pos k1]at hp;exact hp
     · rename_i k1;rw [if_neg k1]at hp;split
       · rename_i k2;rw [if_pos k2]at hp;unfold zcL at hp ⊢
         rw [List.length_set];rw [qae]at hp ⊢
         refine ⟨hp.1,?_⟩;rw [zcf] at *
         intro t h1 h2 z' hz'
         rw [hget]at hz'
         split at hz'
         · rename_i e;subst e;have:=hp.2 j h1 h2 y hy
           omega
         · exact hp.2 t h1 h2 z' hz'
       · rename_i k2;rw [if_neg k2]at hp;split
         · rename_i k3;rw [if_pos k3]at hp;unfold zd2 zfU at hp ⊢
           rw [qae]at hp ⊢
           refine ⟨hp.1,?_⟩;obtain ⟨l,h1,h2,h3,h4⟩:=(zcp pw np ps i 1).1 hp.2;have hlj:¬j=l:=fun e=>by subst e;rw [hDy]at h2;omega
           exact (zcp pw np _ i 1).2 ⟨l,h1,(hk2 l).2 h2,fun m a c hh=>h3 m a c ((hk2 m).1 hh),by rw [hD l hlj];exact h4⟩
         · rename_i k3;rw [if_neg k3]at hp;cases hp
theorem zqw{pw np:Int}{ps:List Pg}{i k:Nat}{sp n:Int}(h:zbt pw np ps=true)(hf:zct ps i k=true)(hl:i+k<=ps.length)(h1:1<=k)(hs:zcA sp=true)(hn:zau pw np n=k):
 zbt pw np (put (ps.set i ⟨2,sp,n,0⟩) (i+1) (k-1) ⟨3,sp,0,0⟩)=true:=by
 rw [zbb]at h ⊢
 have hfree:∀ t,i<=t->t<i+k->∀ z,ps[t]?=some z->z.kind=0:=fun t a c z hz=>by
  have hz':z∈(ps.drop i).take k:=by
   refine qaK (i:=t-i) ?_
   rw [qa6,if_pos (by omega),qa5,show i+(t-i)=t by omega];exact hz
  unfold zct at hf;exact qar (qaO.1 hf z hz')
 obtain ⟨qs,hqs⟩:∃ qs,put (ps.set i ⟨2,sp,n,0⟩) (i+1) (k-1) ⟨3,sp,0,0⟩=qs:=⟨_,rfl⟩
 rw [hqs];have hql:qs.length=ps.length:=by rw [<-hqs,zeo (by rw [List.length_set];omega),List.length_set]
 have hget:∀ t,qs[t]?=if t=i then some ⟨2,sp,n,0⟩ else if i<=t/\t<i+k then some ⟨3,sp,0,0⟩ else ps[t]?:=fun t=>by
  rw [<-hqs];split
  · rename_i e;subst e;rw [zdo (by rw [List.length_set];omega) (Or.inr (by omega)),qaW,if_pos rfl,if_pos (by omega)]
  · rename_i e;split
    · rename_i hr;rw [zmq (by rw [List.length_set];omega) (by omega) (by omega)]
    · rw [zdo (by rw [List.length_set];omega) (by omega),qaW,if_neg (by omega)]
 have hin:∀ t,i<=t->t<i+k->∃ z,ps[t]?=some z:=fun t a c=>⟨_,qap (show t<ps.length by omega)⟩
 have hD:∀ t,¬(i<=t/\t<i+k)->qs.getD t Pg.zero=ps.getD t Pg.zero:=fun t ht=>by rw [qay,qay,hget,if_neg (by omega),if_neg ht]
 have hDi:qs.getD i Pg.zero=⟨2,sp,n,0⟩:=zav (by rw [hget,if_pos rfl])
 have hDt:∀ t,i<t->t<i+k->qs.getD t Pg.zero=⟨3,sp,0,0⟩:=fun t a c=>zav (by rw [hget,if_neg (by omega),if_pos ⟨by omega,c⟩])
 have hD0:∀ t,i<=t->t<i+k->(ps.getD t Pg.zero).kind=0:=fun t a c=>by
  obtain ⟨z,hz⟩:=hin t a c;rw [zav hz];exact hfree t a c z hz
 intro t z hz;rw [hget]at hz;split at hz
 · rename_i e;subst e;cases hz;unfold zbG;rw [if_neg (show ¬(2:Int)=0 by decide),if_neg (show ¬(2:Int)=1 by decide),if_pos rfl]
   unfold zcL;simp only
   rw [hs,hn,hql,qac (show (1:Int)<=k by omega),qac (show (t:Int)+k<=ps.length by omega),show zeO 0=true from rfl,qaS,qaS,qaS,qaS,zcf]
   intro u a c z hz;rw [hget,if_neg (by omega),if_pos (by omega)]at hz
   cases hz;exact ⟨rfl,rfl⟩
 · rename_i e;split at hz
   · rename_i hr;cases hz;unfold zbG;rw [if_neg (show ¬(3:Int)=0 by decide),if_neg (show ¬(3:Int)=1 by decide),if_neg (show ¬(3:Int)=2 by decide),if_pos rfl]
     unfold zd2 zfU;rw [show decide ((0:Int)=0/\(0:Int)=0)=true from rfl,qaS,zcp]
     refine ⟨i,by omega,by rw [hDi],fun m a c=>?_,?_⟩
     · rw [hDt m a (by omega)];simp
     · rw [hDi];simp only;rw [hn];omega
   · rename_i hr;have hp:=h t z hz;unfold zbG at hp ⊢
     split
     · rename_i k0;rw [if_pos k0]at hp;exact hp
     · rename_i k0;rw [if_neg k0]at hp;split
       · rename_i k1;rw [if_pos k1]at hp;exact hp
       · rename_i k1;rw [if_neg k1]at hp;split
         · rename_i k2;rw [if_pos k2]at hp;unfold zcL at hp ⊢
           rw [hql];rw [qae]at hp ⊢
           refine ⟨hp.1,?_⟩;rw [zcf] at *
           intro u a c z' hz'
           by_cases hu:i<=u/\u<i+k
           · obtain ⟨y,hy⟩:=hin u hu.1 hu.2;have h3:=(hp.2 u a c y hy).1;have h0:=hfree u hu.1 hu.2 y hy;omega
           · rw [hget,if_neg (by omega),if_neg hu]at hz'
             exact hp.2 u a c z' hz'
         · rename_i k2;rw [if_neg k2]at hp;split
           · rename_i k3;rw [if_pos k3]at hp;unfold zd2 zfU at hp ⊢
             rw [qae]at hp ⊢
             refine ⟨hp.1,?_⟩;obtain ⟨l,h2,h3,h4,h5⟩:=(zcp pw np ps t 1).1 hp.2;have hlo:¬(i<=l/\l<i+k):=fun c=>by have:=hD0 l c.1 c.2;omega
             have htl:t<ps.length:=(qak.1 hz).1;have hlz:ps[l]?=some (ps[l]'(by omega)):=qap _
             have hpl:=h l _ hlz;rw [zav hlz]at h3 h5;unfold zbG at hpl;rw [if_neg (by omega),if_neg (by omega),if_pos h3]at hpl
             unfold zcL at hpl;rw [qae,zcf]at hpl;have hnot:∀ m,l<m->m<t->¬(i<=m/\m<i+k):=fun m a c hc=>by
              obtain ⟨y,hy⟩:=hin m hc.1 hc.2;have q3:=(hpl.2 m (by omega) (by omega) y hy).1
              have q0:=hfree m hc.1 hc.2 y hy;omega
             refine (zcp pw np qs t 1).2 ⟨l,h2,by rw [hD l hlo,zav hlz];exact h3,fun m a c=>by rw [hD m (hnot m a c)];exact h4 m a c,by rw [hD l hlo,zav hlz];exact h5⟩
           · rename_i k3;rw [if_neg k3]at hp;cases hp
theorem zgN(pw np:Int)(ps:List Pg):∀ (i:Nat) (b:Int),1<=b->(zb7 pw np ps i b=true↔b<=zeR pw np ps i)
 | 0,b,hb=>by
  rw [zb7,zeR];constructor
  · intro h;cases h
  · intro h;omega
 | i+1,b,hb=>by
  rw [zb7,zeR];by_cases h2:(ps.getD i Pg.zero).kind=2
  · rw [if_pos h2,if_pos h2,qaa];omega
  · rw [if_neg h2,if_neg h2,zgN pw np ps i (b+1) (by omega)];omega
theorem zj9{pw np:Int}{ps:List Pg}(h:zaG pw np ps 0=true):zbt pw np ps=true:=by
 rw [zbb];intro i x hx;have hi:i<ps.length:=(qak.1 hx).1;have hp:=zkm h i (by omega)
 obtain ⟨_,rfl⟩:=qak.1 hx;rw [qaU hi,zaG]at hp;generalize hX:ps[i]=x at *
 cases hs:zbT pw np x (ps.drop (i+1)) (zeR pw np ps i) with
 | none=>rw [hs]at hp;cases hp
 | some d=>
  unfold zbT at hs;split at hs
  · cases hs
  · rename_i hA;have hsp:zcA x.space=true:=zfy.2 ⟨by omega,by omega⟩
    have hpn:zeO x.pins=true:=by
     cases hp':zeO x.pins
     · exact absurd (Or.inr (Or.inr (Or.inr hp'))) hA
     · rfl
    unfold zbG;split
    · rename_i k0;rw [if_pos k0]at hs;split at hs
      · rename_i e;rw [e];rfl
      · cases hs
    · rename_i k0;rw [if_neg k0]at hs;split
      · rename_i k1;rw [if_pos k1]at hs;split at hs
        · cases hs
        · unfold zdS;rw [hsp,hpn,qac (show 0<=x.used/\x.used<=pw by omega)];rfl
      · rename_i k1;rw [if_neg k1]at hs;split
        · rename_i k2;rw [if_pos k2]at hs;split at hs
          · cases hs
          · rename_i hB;have hn1:1<=zau pw np x.used:=by omega
            obtain ⟨t1,t2⟩:=(zjQ x.space (ps.drop (i+1)) ((zau pw np x.used).toNat-1)).1 (by omega)
            rw [qaG]at t1;unfold zcL;rw [hsp,hpn,qac hn1,qac (show (i:Int)+zau pw np x.used<=ps.length by omega),t2];rfl
        · rename_i k2;rw [if_neg k2]at hs;split
          · rename_i k3;rw [if_pos k3]at hs;split at hs
            · rename_i e;unfold zd2;rw [qac e,qaS];unfold zfU;rw [zgN pw np ps i 1 (by omega)]
              have:x.kind=3↔0<zeR pw np ps i:=Classical.not_not.1 fun c=>hA (Or.inl c)
              have:=this.1 k3
              omega
            · cases hs
          · rename_i k3;rw [if_neg k3]at hs;cases hs
theorem zeX{pw np:Int}{ps:List Pg}(h:zbt pw np ps=true):∀ (k i:Nat),i+k=ps.length->zaG pw np (ps.drop i) (zeR pw np ps i)=true
 | 0,i,hi=>by rw [qbn (by omega)];rfl
 | k+1,i,hi=>by
  have ih:=zeX h k (i+1) (by omega)
  have hlt:i<ps.length:=by omega
  have hx:ps[i]?=some (ps[i]'hlt):=qap _
  rw [zbb]at h;have hp:=h i _ hx;rw [qaU hlt,zaG];generalize ps[i]'hlt=x at *
  have hdue:0<zeR pw np ps i->x.kind=3/\0<=x.space/\x.space<=1:=fun hd=>by
   obtain ⟨l,h1,h2,-,h4⟩:=(zcp pw np ps i 1).1 ((zgN pw np ps i 1 (by omega)).2 (by omega))
   have hl:ps[l]?=some (ps[l]'(by omega)):=qap _
   have hpl:=h l _ hl;rw [zav hl]at h2 h4;unfold zbG at hpl;rw [if_neg (by omega),if_neg (by omega),if_pos h2]at hpl
   unfold zcL at hpl;simp only [qae]at hpl;have ht:=(zcf.1 hpl.2) i (by omega) (by omega) x hx
   have hs:=zfy.1 hpl.1.1.1.1;exact ⟨ht.1,by omega,by omega⟩
  have key:zbT pw np x (ps.drop (i+1)) (zeR pw np ps i)≠none:=by
   have h3:x.kind=3->0<zeR pw np ps i/\x.used=0/\x.pins=0:=fun k3=>by
    unfold zbG at hp;rw [if_neg (by omega),if_neg (by omega),if_neg (by omega),if_pos k3]at hp
    unfold zd2 at hp;rw [qae,qaa]at hp;have:=(zgN pw np ps i 1 (by omega)).1 hp.2
    exact ⟨by omega,hp.1⟩
   have hiff:x.kind=3↔0<zeR pw np ps i:=⟨fun k=>(h3 k).1,fun d=>(hdue d).1⟩
   unfold zbG at hp;unfold zbT;split at hp
   · rename_i k0;obtain ⟨a1,a2,a3⟩:=qar hp;have ex:x=Pg.zero:=by cases x;simp only at k0 a1 a2 a3;subst k0 a1 a2 a3;rfl
     rw [if_neg (by rw [a1,a3];rintro (c | c | c | c);exact c hiff;omega;omega;cases c),if_pos k0,if_pos ex]
     exact fun c=>by cases c
   · rename_i k0;split at hp
     · rename_i k1;unfold zdS at hp;simp only [qae,qaa]at hp;have hs:=zfy.1 hp.1.1;rw [if_neg (by rintro (c | c | c | c);exact c hiff;omega;omega;rw [hp.2]at c;cases c),if_neg k0,if_pos k1,if_neg (by omega)]
       exact fun c=>by cases c
     · rename_i k1;split at hp
       · rename_i k2;unfold zcL at hp;simp only [qae,qaa]at hp;obtain ⟨⟨⟨⟨a1,a2⟩,a3⟩,a4⟩,a5⟩:=hp;have hs:=zfy.1 a1;have ht:=(zjQ x.space (ps.drop (i+1)) ((zau pw np x.used).toNat-1)).2 ⟨by rw [qaG];omega,a5⟩
         rw [if_neg (by rintro (c | c | c | c);exact c hiff;omega;omega;rw [a3]at c;cases c),if_neg k0,if_neg k1,if_pos k2,if_neg (by omega)]
         exact fun c=>by cases c
       · rename_i k2;split at hp
         · rename_i k3;obtain ⟨b1,b2,b3⟩:=h3 k3;obtain ⟨-,c1,c2⟩:=hdue b1;rw [if_neg (by rw [b3];rintro (c | c | c | c);exact c hiff;omega;omega;cases c),if_neg k0,if_neg k1,if_neg k2,if_pos k3,if_pos ⟨b2,b3⟩]
           exact fun c=>by cases c
         · cases hp
  cases hs:zbT pw np x (ps.drop (i+1)) (zeR pw np ps i) with
  | none=>exact absurd hs key
  | some d=>
   simp only
   rw [zsG hx hs];exact ih
theorem ziZ(pw np:Int)(ps:List Pg):zaG pw np ps 0=zbt pw np ps:=by
 cases h:zbt pw np ps
 · cases h2:zaG pw np ps 0
   · rfl
   · rw [zj9 h2]at h;cases h
 · have:=zeX h ps.length 0 (by omega)
   rwa [qb5]at this
theorem zgJ(pw np:Int)(nw:Nat)(ps:List Pg)(sp b:Int):zh1 pw np nw ps sp b=zcI pw np nw ps sp b:=by
 unfold zh1 zcI;rw [ziZ];have:zcA sp=decide (0<=sp/\sp<=1):=by
  unfold zcA;by_cases h:0<=sp/\sp<=1
  · rw [qac h];exact qac (by omega)
  · rw [qaj h];exact qaj (by omega)
 rw [this]
theorem zvx{pw np k n m:Int}(h:k=0):zjA pw np k n m=false:=by
 unfold zjA;simp [h]
theorem zvy{pw np k n m:Int}(h:¬k=0):zjA pw np k n m=(zau pw np (zaO k n m) != -1):=by
 unfold zjA;cases hv:zaA k n m
 · rw [zqz hv,zgh (Or.inr (by omega))];rfl
 · by_cases hz:zau pw np (zaO k n m) = -1 <;> simp [h,hz]
structure PlOK7 (h:Hp):Prop where
 conf:confB h.pw h.np=true
 len:(h.pages.length:Int)=h.np
 sp:0<=h.space/\h.space<=1
 bp:h.bump = -1\/∃ K:Nat,∃ x:Pg,h.bump=K/\h.pages[K]?=some x/\x.kind=1/\0<=x.used/\x.used<=h.pw
theorem PlOK7.bump{h:Hp}(hp:PlOK7 h):(h.bump = -1\/0<=h.bump/\h.bump<h.pages.length)/\(¬h.bump = -1->0<=(h.pages.getD h.bump.toNat Pg.zero).used/\(h.pages.getD h.bump.toNat Pg.zero).used<=100000):=by
 obtain ⟨_,k2,_⟩:=zai hp.conf;rcases hp.bp with h1 | ⟨K,x,h1,h2,-,h3,h4⟩
 · exact ⟨Or.inl h1,fun c=>absurd h1 c⟩
 · have:=(qak.1 h2).1
   rw [h1,qad,zav h2];exact ⟨Or.inr ⟨by omega,by omega⟩,fun _=>⟨h3,by omega⟩⟩
theorem zfl{pw np:Int}{K:Nat}{o:Int}(hc:confB pw np=true)(hk:(K:Int)<np)(h0:0<=o)(h1:o<pw):zlf pw np K o=0/\za2 pw np K o=4096+K*pw+o:=by
 obtain ⟨a,b⟩:=zdy hc (p:=(K:Int)) (o:=o) (qac ⟨by omega,hk,h0,h1⟩)
 exact ⟨b,a⟩
theorem zmt{h:Hp}{nn:Int}(hp:PlOK7 h)(h1:1<=nn)(hn:newB h nn=false):
 ∃ (K:Nat) (x:Pg),h.bump=K/\h.pages[K]?=some x/\(0<=x.used/\x.used<=100000)/\zbZ h nn=true/\zkc h nn=⟨h.pw,h.np,h.words,h.pages.set K ⟨x.kind,x.space,x.used+nn,x.pins⟩,h.space,K⟩/\zlf h.pw h.np K x.used=0/\zkd h nn=za2 h.pw h.np K x.used:=by
 have hd:=qa3 hn;obtain ⟨_,k2,_⟩:=zai hp.conf;rcases hp.bp with h2 | ⟨K,x,h2,h3,-,h4,h5⟩
 · exact absurd (Or.inl (by omega)) hd
 · have hK:=(qak.1 h3).1;have hbp:zjb h=x:=by unfold zjb;rw [h2,qad,zav h3]
   have hl:=hp.len;rw [hbp]at hd;obtain ⟨a,b⟩:=zfl (K:=K) (o:=x.used) hp.conf (by omega) h4 (by omega)
   have hJ:zeV h nn=K:=by unfold zeV;rw [hn];exact h2
   have hP:zbL h nn=h.pages:=by unfold zbL;rw [hn];rfl
   refine ⟨K,x,h2,h3,⟨h4,by omega⟩,by unfold zbZ;rw [hn];rfl,?_,a,?_⟩
   · unfold zkc zgC;rw [hJ,hP,qad,zav h3]
   · unfold zkd;rw [hJ,hP,qad,zav h3,b]
theorem zoP{h:Hp}{nn:Int}(hp:PlOK7 h)(hn:newB h nn=true)(hf:zdk h=false):
 ∃ (K:Nat),zaz h.pages 1=K/\K<h.pages.length/\zhX h.pages K h.space=0/\zcl h.pages K h.space=h.pages.set K ⟨1,h.space,0,0⟩/\(∃ y,h.pages[K]?=some y/\y.kind=0)/\zbZ h nn=true/\zkc h nn=⟨h.pw,h.np,h.words,(h.pages.set K ⟨1,h.space,0,0⟩).set K ⟨1,h.space,0+nn,0⟩,h.space,K⟩/\zlf h.pw h.np K 0=0/\zkd h nn=za2 h.pw h.np K 0:=by
 have hd:=qa3 hf;have hF:0<=zaz h.pages 1:=by omega
 obtain ⟨-,f1,f2⟩:=zdf hF;obtain ⟨K,hK⟩:=qaQ hF;rw [hK]at f1 f2;obtain ⟨y,hy,hy0⟩:=f2 K (by omega) (by omega)
 have hlt:K<h.pages.length:=(qak.1 hy).1;have hfree:zct h.pages K 1=true:=by
  have:=zce (ps:=h.pages) (i:=K) (k:=0) (x:=y) (by rw [qa4];exact hy)
  rw [zcM,hy0]at this;simpa using this
 obtain ⟨t1,t2⟩:=zj7 (x:=⟨1,h.space,0,0⟩) (y:=Pg.zero) hlt (show K+1<=h.pages.length by omega) hfree
 rw [zsf (by omega) (by omega),znm]at t1
 have hps:zcl h.pages K h.space=h.pages.set K ⟨1,h.space,0,0⟩:=by
  unfold zcl;rw [if_pos hp.sp];exact t1
 have hpe:zhX h.pages K h.space=0:=by unfold zhX;rw [if_pos hp.sp];exact t2
 have hl:=hp.len;obtain ⟨k1,k2,_⟩:=zai hp.conf;obtain ⟨a,b⟩:=zfl (K:=K) (o:=0) hp.conf (by omega) (by omega) (by omega)
 have hJ:zeV h nn=K:=by unfold zeV;rw [hn];exact hK
 have hP:zbL h nn=h.pages.set K ⟨1,h.space,0,0⟩:=by unfold zbL;rw [hn,if_pos rfl,hK,hps]
 have hg:(h.pages.set K ⟨1,h.space,0,0⟩)[K]?=some ⟨1,h.space,0,0⟩:=by rw [qaW,if_pos rfl,if_pos hlt]
 refine ⟨K,hK,hlt,hpe,hps,⟨y,hy,hy0⟩,by unfold zbZ;rw [hn,hf];rfl,?_,a,?_⟩
 · unfold zkc zgC;rw [hJ,hP,qad,zav hg]
 · unfold zkd;rw [hJ,hP,qad,zav hg,b]
theorem zs8{h:Hp}{nn:Int}(hn:newB h nn=true)(hf:zdk h=true):zbZ h nn=false:=by
 unfold zbZ;rw [hn,hf];rfl
theorem zqI{h:Hp}{n k:Int}(hp:PlOK7 h)(hk:zau h.pw h.np n=k)(h1:1<=k)(hF:0<=zaz h.pages k):
 ∃ (K kk:Nat),k=kk/\zaz h.pages k=K/\K+kk<=h.pages.length/\zct h.pages K kk=true/\zkG h.pw h.np h.pages K h.space n=0/\zfe h.pw h.np h.pages K h.space n=put (h.pages.set K ⟨2,h.space,n,0⟩) (K+1) (kk-1) ⟨3,h.space,0,0⟩/\zlf h.pw h.np K 0=0/\zmI h k=za2 h.pw h.np K 0:=by
 obtain ⟨-,f1,f2⟩:=zdf hF;obtain ⟨K,hK⟩:=qaQ hF;obtain ⟨kk,hkk⟩:=qaQ (show 0<=k by omega)
 rw [hK]at f1 f2;have hfree:∀ j:Nat,j<=kk->zct h.pages K j=true:=by
  intro j;induction j with
  | zero=>intro _;exact zcM _ _
  | succ j ih=>
   intro hj;obtain ⟨y,hy,hy0⟩:=f2 (K+j) (by omega) (by omega)
   rw [zce hy,ih (by omega),hy0];rfl
 have hl:=hp.len;obtain ⟨k1,k2,_⟩:=zai hp.conf;obtain ⟨a,b⟩:=zfl (K:=K) (o:=0) hp.conf (by omega) (by omega) (by omega)
 obtain ⟨t1,t2⟩:=zj7 (x:=⟨2,h.space,n,0⟩) (y:=⟨3,h.space,0,0⟩) (show K<h.pages.length by omega) (show K+kk<=h.pages.length by omega) (hfree kk (qam _))
 rw [zsf (by omega) (by omega)]at t1
 obtain ⟨e1,e2⟩:=zvc (ps:=h.pages) (i:=(K:Int)) (show 1<=zau h.pw h.np n/\0<=h.space/\h.space<=1 from ⟨by omega,hp.sp⟩)
 refine ⟨K,kk,hkk,hK,by omega,hfree kk (qam _),?_,?_,a,?_⟩
 · rw [e2,hk,hkk];exact t2
 · rw [e1,hk,hkk];exact t1
 · unfold zmI;rw [hK,b];omega
def zeq(h:Hp)(n:Int):Bool:=if 0<zau h.pw h.np n then zg9 h (zau h.pw h.np n) else zbZ h n
def zdq(h:Hp)(n:Int):Hp:=if 0<zau h.pw h.np n then zmH h n (zau h.pw h.np n) else zkc h n
def zdI(h:Hp)(n:Int):Int:=if 0<zau h.pw h.np n then zmI h (zau h.pw h.np n) else zkd h n
def okP(h:Hp):Bool:=zh1 h.pw h.np h.words.length h.pages h.space h.bump
theorem zaU{h:Hp}(hp:okP h=true):confB h.pw h.np=true/\(h.words.length:Int)=h.np*h.pw/\(h.pages.length:Int)=h.np/\zcA h.space=true/\zfk h.pages h.bump=true/\zbt h.pw h.np h.pages=true:=by
 unfold okP zh1 at hp;simp only [qae,qaa]at hp;obtain ⟨⟨⟨⟨⟨h1,h2⟩,h3⟩,h4⟩,h5⟩,h6⟩:=hp;exact ⟨h1,h2,h3,h4,h5,h6⟩
theorem zuO{h:Hp}(h1:confB h.pw h.np=true)(h2:(h.words.length:Int)=h.np*h.pw)(h3:(h.pages.length:Int)=h.np)(h4:zcA h.space=true)(h5:zfk h.pages h.bump=true)(h6:zbt h.pw h.np h.pages=true):okP h=true:=by
 unfold okP zh1;rw [h1,qac h2,qac h3,h4,h5,h6];rfl
theorem zjR{pw np:Int}{ps:List Pg}{K:Nat}{x:Pg}(h:zbt pw np ps=true)(hx:ps[K]?=some x)(h1:x.kind=1):zcA x.space=true/\(0<=x.used/\x.used<=pw)/\zeO x.pins=true:=by
 have:=zbb.1 h K x hx
 unfold zbG at this;rw [if_neg (by omega),if_pos h1]at this
 unfold zdS at this;rw [qae,qae,qaa]at this;exact ⟨this.1.1,this.1.2,this.2⟩
theorem PlOK7.of{h:Hp}(hp:okP h=true):PlOK7 h:=by
 obtain ⟨h1,h2,h3,h4,h5,h6⟩:=zaU hp;refine ⟨h1,h3,zfy.1 h4,?_⟩;rcases qar h5 with e | ⟨e1,e2,e3⟩
 · exact Or.inl e
 · have hx:h.pages[h.bump.toNat]?=some (h.pages[h.bump.toNat]'(by omega)):=qap _
   rw [zav hx]at e3;obtain ⟨-,hu,-⟩:=zjR h6 hx e3;exact Or.inr ⟨h.bump.toNat,_,by omega,hx,e3,hu.1,hu.2⟩
theorem zsp{pw n:Int}(hn:0<zd9 pw n):n<=zd9 pw n*pw:=by
 unfold zd9 at *
 split at hn
 · omega
 · rename_i h0;rw [if_neg h0];split at hn
   · rename_i h1;rw [if_pos h1];omega
   · rename_i h1;rw [if_neg h1];split at hn
     · rename_i h2;rw [if_pos h2];omega
     · rename_i h2;rw [if_neg h2];split at hn
       · rename_i h3;rw [if_pos h3];omega
       · rename_i h3;rw [if_neg h3];split at hn
         · rename_i h4;rw [if_pos h4];omega
         · omega
theorem zq7{pw np n:Int}(hc:confB pw np=true)(h0:¬0<zau pw np n)(h1:¬zau pw np n = -1):1<=n/\n<=pw / 4:=by
 have hz:zau pw np n=0:=by have:=znN pw np n;omega
 by_cases hn:1<=n
 · rw [zgg hc hn]at hz;refine ⟨hn,?_⟩;unfold zd9 at hz;split at hz
   · assumption
   · split at hz
     · omega
     · split at hz
       · omega
       · split at hz
         · omega
         · split at hz <;> omega
 · rw [zgh (Or.inr (by omega))]at hz;omega
theorem zoa{ps:List Pg}{K:Nat}{x:Pg}(h:ps[K]?=some x)(h1:x.kind=1):zfk ps K=true:=by
 have:=(qak.1 h).1
 refine qac (Or.inr ⟨by omega,by omega,?_⟩)
 rw [qad,zav h];exact h1
theorem zi0{h:Hp}{s:Int}(hp:okP h=true)(h1:1<=s)(hn:¬zau h.pw h.np s = -1)(hok:zeq h s=true):
 okP (zdq h s)=true/\(zdq h s).words=h.words/\(0<=zdI h s/\zdI h s<18446744073709551616)/\okA h.words.length (zdI h s) s.toNat=true:=by
 obtain ⟨p1,p2,p3,p4,p5,p6⟩:=zaU hp;have hpl:=PlOK7.of hp;obtain ⟨g1,g2⟩:=conf_prod p1;obtain ⟨k1,k2,-,k4,k5⟩:=zai p1;unfold zeq at hok;unfold zdq zdI;by_cases hk:0<zau h.pw h.np s
 · rw [if_pos hk]at hok;rw [if_pos hk,if_pos hk];have hd:=qar hok;obtain ⟨K,kk,e1,e2,e3,e4,-,e6,-,e8⟩:=zqI (n:=s) hpl rfl (by omega) (show 0<=zaz h.pages (zau h.pw h.np s) by omega)
   have hH:zmH h s (zau h.pw h.np s)={ h with pages:=put (h.pages.set K ⟨2,h.space,s,0⟩) (K+1) (kk-1) ⟨3,h.space,0,0⟩ }:=by unfold zmH;rw [e2,e6]
   have hlen:(put (h.pages.set K ⟨2,h.space,s,0⟩) (K+1) (kk-1) ⟨3,h.space,0,0⟩).length=h.pages.length:=by rw [zeo (by rw [List.length_set];omega),List.length_set]
   obtain ⟨a1,a2⟩:=zfl (K:=K) (o:=0) p1 (by omega) (by omega) (by omega)
   have hsz:s<=zau h.pw h.np s*h.pw:=by
    have h3:=zgg p1 h1;rw [h3]at hk ⊢
    exact zsp hk
   have hmul:(K:Int)*h.pw+zau h.pw h.np s*h.pw<=h.np*h.pw:=by
    rw [<-qa9];exact qaR (by omega) (by omega)
   have hK0:0<=(K:Int)*h.pw:=qa0 (by omega) (by omega)
   rw [hH,e8,a2];refine ⟨zuO p1 p2 (by simp only;rw [hlen];exact p3) p4 ?_ (zqw p6 e4 e3 (by omega) p4 e1),rfl,⟨by omega,by omega⟩,qac ⟨by omega,by omega⟩⟩
   simp only
   rcases qar p5 with e | ⟨c1,c2,c3⟩
   · exact qac (Or.inl e)
   · have hx:h.pages[h.bump.toNat]?=some (h.pages[h.bump.toNat]'(by omega)):=qap _
     rw [zav hx]at c3;have hnf:¬(K<=h.bump.toNat/\h.bump.toNat<K+kk):=fun c=>by
      have hz':h.pages[h.bump.toNat]'(by omega)∈(h.pages.drop K).take kk:=by
       refine qaK (i:=h.bump.toNat-K) ?_
       rw [qa6,if_pos (by omega),qa5,show K+(h.bump.toNat-K)=h.bump.toNat by omega];exact hx
      unfold zct at e4;have:=qar (qaO.1 e4 _ hz')
      omega
     have hy:(put (h.pages.set K ⟨2,h.space,s,0⟩) (K+1) (kk-1) ⟨3,h.space,0,0⟩)[h.bump.toNat]?=some (h.pages[h.bump.toNat]'(by omega)):=by
      rw [zdo (by rw [List.length_set];omega) (by omega),qaW,if_neg (by omega)];exact hx
     have:=zoa hy c3
     rwa [show ((h.bump.toNat:Nat):Int)=h.bump by omega]at this
 · rw [if_neg hk]at hok;rw [if_neg hk,if_neg hk];obtain ⟨s1,s4⟩:=zq7 p1 hk hn;cases hnb:newB h s
   · obtain ⟨K,x,b1,b2,b3,-,b5,-,b7⟩:=zmt hpl h1 hnb;have hKl:=(qak.1 b2).1;have hx1:x.kind=1:=by
      rcases hpl.bp with e | ⟨K',x',e1,e2,e3,-⟩
      · omega
      · obtain rfl:K=K':=by omega
        rw [b2]at e2;cases e2;exact e3
     obtain ⟨u1,u2,u3⟩:=zjR p6 b2 hx1;have hfit:x.used+s<=h.pw:=by
      have hd:=qa3 hnb;unfold zjb at hd;rw [b1,qad,zav b2]at hd;omega
     obtain ⟨a1,a2⟩:=zfl (K:=K) (o:=x.used) p1 (by omega) (by omega) (by omega)
     have hmul:(K:Int)*h.pw+h.pw<=h.np*h.pw:=(zaY p1 (by omega) (by omega)).2
     have hK0:0<=(K:Int)*h.pw:=qa0 (by omega) (by omega)
     rw [b5,b7,a2];refine ⟨zuO p1 p2 (by simp only;rw [List.length_set];exact p3) p4 ?_ ?_,rfl,⟨by omega,by omega⟩,qac ⟨by omega,by omega⟩⟩
     · exact zoa (x:=⟨x.kind,x.space,x.used+s,x.pins⟩) (by simp only;rw [qaW,if_pos rfl,if_pos hKl]) hx1
     · refine zj8 p6 b2 (Or.inr hx1) hx1 ?_;unfold zdS;simp only
       rw [u1,u3,qac (show 0<=x.used+s/\x.used+s<=h.pw by omega)];rfl
   · have hf:zdk h=false:=by
      unfold zbZ at hok;rw [hnb,qaS]at hok;simpa using hok
     obtain ⟨K,-,b2,-,-,⟨y,hy,hy0⟩,-,b5,-,b7⟩:=zoP hpl hnb hf;obtain ⟨a1,a2⟩:=zfl (K:=K) (o:=0) p1 (by omega) (by omega) (by omega)
     have hmul:(K:Int)*h.pw+h.pw<=h.np*h.pw:=(zaY p1 (by omega) (by omega)).2
     have hK0:0<=(K:Int)*h.pw:=qa0 (by omega) (by omega)
     rw [List.set_set]at b5;rw [b5,b7,a2];refine ⟨zuO p1 p2 (by simp only;rw [List.length_set];exact p3) p4 ?_ ?_,rfl,⟨by omega,by omega⟩,qac ⟨by omega,by omega⟩⟩
     · exact zoa (x:=⟨1,h.space,0+s,0⟩) (by simp only;rw [qaW,if_pos rfl,if_pos b2]) rfl
     · refine zj8 p6 hy (Or.inl hy0) rfl ?_;unfold zdS;simp only
       rw [p4,show zeO 0=true from rfl,qac (show 0<=0+s/\0+s<=h.pw by omega)];rfl
theorem zoQ(h:Hp)(k n m:Int):znK h k n m=zeq h (zaO k n m)/\zkE h k n m=zdq h (zaO k n m)/\znL h k n m=zdI h (zaO k n m):=by
 unfold znK zkE znL zso zeq zdq zdI;by_cases hb:0<zau h.pw h.np (zaO k n m)
 · simp [hb]
 · simp [hb]
theorem zuF{B:Int}(hB:0<=B){h:Hp}(hp:PinL B h.pages)(s:Int):PinL B (zdq h s).pages:=by
 unfold zdq;split
 · show PinL B (zfe _ _ _ _ _ _)
   unfold zfe;split
   · exact hp.take hB _ _ rfl rfl
   · exact PinL.nil B
 · show PinL B (zgC (zbL h s) _ _)
   refine PinL.use ?_ hB _ _;unfold zbL;split
   · unfold zcl;split
     · exact hp.take hB _ _ rfl rfl
     · exact PinL.nil B
   · exact hp
theorem zuA:zsQ:=by
 intro n x k l m hn hm L k1 k3 l0 l1 m0 m1 he;obtain ⟨ha,hr⟩:zi3 x.h k l m=true/\znK x.h k l m=true:=by
  unfold zc2 at he;split at he
  · rename_i h1;split at he
    · rename_i h2;exact ⟨h1,h2⟩
    · exact absurd he (by decide)
  · exact absurd he (by decide)
 obtain ⟨e1,e2,e3⟩:=zoQ x.h k l m;rw [e1]at hr;unfold zi3 zjA at ha;simp only [qae,qaa]at ha;obtain ⟨ho,⟨hv,hk0⟩,hnd⟩:=ha;have hs:=zcm hv;have hop:okP x.h=true:=by unfold okP;rw [zgJ];exact ho
 obtain ⟨q1,q2,q3,q4⟩:=zi0 hop (show 1<=zaO k l m by rw [hs];omega) hnd hr
 have hoh:okH (zdq x.h (zaO k l m))=true:=by unfold okP at q1;rw [zgJ]at q1;exact q1
 have hil:(zdv k l m).length=(zaO k l m).toNat:=by rw [zhb,hs];omega
 have hka:okA (zdq x.h (zaO k l m)).words.length (zdI x.h (zaO k l m)) (zdv k l m).length=true:=by rw [q2,hil];exact q4
 have hie:zim (zdq x.h (zaO k l m)) (zdI x.h (zaO k l m)) k l m=0:=by
  unfold zim;rw [if_pos ⟨hv,hoh⟩];unfold zeS;rw [if_pos hka]
 have hH:zho x.h k l m={ zdq x.h (zaO k l m) with words:=zaF (zdq x.h (zaO k l m)).words (zdI x.h (zaO k l m)) (zdv k l m) }:=by
  unfold zho;rw [if_pos he,e2,e3];unfold zkI;rw [if_pos hie]
 have hA:zje x.h k l m=zdI x.h (zaO k l m):=by unfold zje;rw [if_pos he,e3]
 obtain ⟨p1,p2,p3,-⟩:=zaq hoh;unfold putV;rw [hH,hA];refine ⟨p1,?_,p3,fun y hy=>?_,L.wk,?_,by have:=L.wkn;show x.wk.length<=_;omega,fun g hg=>?_⟩
 · show ((zaF _ _ _).length:Int)=_
   rw [zd1 hka];exact p2
 · rcases qas.1 hy with h2 | h2
   · exact L.st y h2
   · rw [qaw.1 h2];exact q3
 · have:=L.stn
   show (x.st++[zdI x.h (zaO k l m)]).length<=_
   rw [qaB];simp;omega
 · have:=zuF (B:=n) (by omega) L.pins (zaO k l m) g hg
   omega
theorem zu8:∀ n x,Made n x->n<=400->Lens n x:=zwt zuA zn6
theorem zuo(l:List Int)(x:Int):sumW (l++[x])=sumW l+x.toNat:=by
 induction l with
 | nil=>simp [sumW]
 | cons g l ih=>rw [qaF,sumW,ih,sumW];omega
def zlH:Nat->List Int->List Int
 | _,[]=>[]
 | x,a::r=>((x &&& zh8 a:Nat):Int)::zlH (x >>> a.toNat) r
theorem zue(ws:List Int):∀ x,(zlH x ws).length=ws.length:=by
 induction ws with
 | nil=>intro x;rfl
 | cons b r ih=>intro x;rw [zlH,qaM,ih,qaM]
def unpE(x:Nat)(ws:List Int):Int:=if fitL 64 ws=true then (if x >>> sumW ws=0 then 0 else 2) else 1
def unpV(x:Nat)(ws:List Int):List Int:=if fitL 64 ws=true then (if x >>> sumW ws=0 then zlH x ws else []) else []
theorem zup{ws:List Int}{k:Nat}{a:Int}(h:ws[k]?=some a):sumW (ws.take (k+1))=sumW (ws.take k)+a.toNat:=by
 rw [zbk h,zuo]
theorem zsl{n m:Int}(h1:0<=n)(h2:n<=32):m<=zh7 n↔m<2 ^ n.toNat:=by
 unfold zh7;rw [show min n.toNat 64=n.toNat from by omega]
 omega
theorem map_no{n m:Int}(h1:0<=n)(h2:n<=32)(h3:zh7 n<m):zaA 1 n m=false :=
 zch fun h=>by have:=(zsl h1 h2).2 (h.2.2.2.2.1 rfl).2;omega
theorem zqu{k n m:Int}(hk:k=0\/k=2\/k=3)(h:0<=n)(h2:n<=255)(h3:m=0):zaA k n m=true :=
 zgB ⟨by omega,by omega,h,h2,fun c=>by omega,fun _=>h3⟩
end Go.VI.P
