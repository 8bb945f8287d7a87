import Derived.Test.YtfjkjbffdhoejaaGreatU00
import Derived.Calls
import Derived.Laws.CopyOwn
import Derived.Laws.Entries
import Derived.RowKit
import Derived.IntWalk
set_option linter.unusedSimpArgs false
set_option linter.unusedVariables false
set_option maxRecDepth 100000
set_option maxHeartbeats 4000000
namespace Go.VI.P
open Go
open Go.RowKit
theorem zbc{α:Type}{l:List α}{k:Nat}{x:α}(h:l[k]?=some x):l.take (k+1)=l.take k++[x]:=by
 rw [List.take_add_one,h];rfl
def confB(pw np:Int):Bool:=decide (16<=pw/\pw<=64/\pw % 4=0/\8<=np/\np<=64)
theorem zaj{pw np:Int}(h:confB pw np=true):16<=pw/\pw<=64/\pw % 4=0/\8<=np/\np<=64:=by
 unfold confB at h;exact qat h
theorem conf_mk{pw np:Int}(h:16<=pw/\pw<=64/\pw % 4=0/\8<=np/\np<=64):confB pw np=true:=by
 unfold confB;exact qad h
def zg4(pw np:Int):Int:=if confB pw np then np / 4 else 0
def zev(pw np:Int):Int:=if confB pw np then pw / 4 else 0
def zeO(pw n:Int):Int:=if n<=pw / 4 then 0 else if n<=pw then 1 else if n<=2*pw then 2 else if n<=3*pw then 3 else if n<=4*pw then 4 else -1
def zat(pw np n:Int):Int:=if confB pw np=true/\1<=n then zeO pw n else -1
theorem zho{pw np n:Int}(h:confB pw np=true)(h1:1<=n):zat pw np n=zeO pw n:=by unfold zat;rw [if_pos ⟨h,h1⟩]
theorem zhp{pw np n:Int}(h:confB pw np=false\/n<1):zat pw np n = -1:=by
 unfold zat;rw [if_neg];rintro ⟨a,b⟩;rcases h with h | h
 . rw [a]at h;cases h
 . omega
def inPg(pw np p o:Int):Bool:=decide (0<=p/\p<np/\0<=o/\o<pw)
def zbj(pw np p o:Int):Int:=if confB pw np then (if inPg pw np p o then 4096+p*pw+o else 0) else 0
def zmV(pw np p o:Int):Int:=if confB pw np then (if inPg pw np p o then 0 else 2) else 1
def inAr(pw np a:Int):Bool:=decide (4096<=a/\a<4096+np*pw)
def ofI(pw np a:Int):Int:=if confB pw np then (if inAr pw np a then (a-4096) / pw else 0) else 0
def ofK(pw np a:Int):Int:=if confB pw np then (if inAr pw np a then (a-4096) % pw else 0) else 0
def ofE(pw np a:Int):Int:=if confB pw np then (if inAr pw np a then 0 else 2) else 1
theorem zy0{pw np:Int}(h:confB pw np=true):zg4 pw np=np / 4:=by unfold zg4;rw [if_pos h]
theorem zy1{pw np:Int}(h:confB pw np=false):zg4 pw np=0:=by unfold zg4;rw [if_neg (by simp [h])]
theorem zo8{pw np:Int}(h:confB pw np=true):zev pw np=pw / 4:=by unfold zev;rw [if_pos h]
theorem zyx{pw np:Int}(h:confB pw np=false):zev pw np=0:=by unfold zev;rw [if_neg (by simp [h])]
theorem zhz{pw np p o:Int}(h:confB pw np=true)(h1:inPg pw np p o=true):zbj pw np p o=4096+p*pw+o/\zmV pw np p o=0:=by
 unfold zbj zmV;rw [if_pos h,if_pos h,if_pos h1,if_pos h1];exact ⟨rfl,rfl⟩
theorem zqh{pw np p o:Int}(h:confB pw np=true)(h1:inPg pw np p o=false):zbj pw np p o=0/\zmV pw np p o=2:=by
 unfold zbj zmV;rw [if_pos h,if_pos h,if_neg (by simp [h1]),if_neg (by simp [h1])];exact ⟨rfl,rfl⟩
theorem addr_no{pw np p o:Int}(h:confB pw np=false):zbj pw np p o=0/\zmV pw np p o=1:=by
 unfold zbj zmV;rw [if_neg (by simp [h]),if_neg (by simp [h])];exact ⟨rfl,rfl⟩
theorem zl7{pw np a:Int}(h:confB pw np=true)(h1:inAr pw np a=true):ofI pw np a=(a-4096) / pw/\ofK pw np a=(a-4096) % pw/\ofE pw np a=0:=by
 unfold ofI ofK ofE;rw [if_pos h,if_pos h,if_pos h,if_pos h1,if_pos h1,if_pos h1];exact ⟨rfl,rfl,rfl⟩
theorem zf3{pw np a:Int}(h:confB pw np=true)(h1:inAr pw np a=false):ofI pw np a=0/\ofK pw np a=0/\ofE pw np a=2:=by
 unfold ofI ofK ofE;rw [if_pos h,if_pos h,if_pos h,if_neg (by simp [h1]),if_neg (by simp [h1]),if_neg (by simp [h1])];exact ⟨rfl,rfl,rfl⟩
theorem zyU{pw np a:Int}(h:confB pw np=false):ofI pw np a=0/\ofK pw np a=0/\ofE pw np a=1:=by
 unfold ofI ofK ofE;rw [if_neg (by simp [h]),if_neg (by simp [h]),if_neg (by simp [h])];exact ⟨rfl,rfl,rfl⟩
theorem conf_prod{pw np:Int}(h:confB pw np=true):128<=np*pw/\np*pw<=4096:=by
 obtain ⟨h1,h2,_,h4,h5⟩:=zaj h;exact ⟨Int.le_trans (show (128:Int)<=8*16 from by decide) (qb4 h4 h1 (by decide) (by omega)),Int.le_trans (qb4 h5 h2 (by omega) (by omega)) (by decide)⟩
theorem zaR{pw np p:Int}(h:confB pw np=true)(h0:0<=p)(h1:p<np):0<=p*pw/\p*pw+pw<=np*pw:=by
 obtain ⟨h2,_⟩:=zaj h;have e:p*pw+pw=(p+1)*pw:=by rw [qbg,qbk]
 exact ⟨qbj h0 (by omega),by rw [e];exact qaV (by omega) (by omega)⟩
theorem zs1{pw np p o:Int}(h:confB pw np=true)(h1:inPg pw np p o=true):inAr pw np (4096+p*pw+o)=true/\(4096+p*pw+o-4096) / pw=p/\(4096+p*pw+o-4096) % pw=o:=by
 unfold inPg at h1;obtain ⟨a,b,c,d⟩:=qat h1;obtain ⟨e,f⟩:=zaR h a b;have g:=zaj h;have e1:4096+p*pw+o-4096=o+p*pw:=by omega
 refine ⟨qad (by omega),?_,?_⟩
 . rw [e1,qcA _ _ (by omega),qcG c d];omega
 . rw [e1,Int.add_mul_emod_self_right,Int.emod_eq_of_lt c d]
structure Pg where
 kind:Int
 space:Int
 used:Int
 pins:Int
 deriving DecidableEq
def Pg.zero:Pg:=⟨0,0,0,0⟩
theorem zao{ps:List Pg}{i:Nat}{x:Pg}(h:ps[i]?=some x):ps.getD i Pg.zero=x:=by rw [qay,h];rfl
def zhd(sp:Int):List Pg->Nat
 | []=>0
 | x::r=>if x.kind=3/\x.space=sp then zhd sp r+1 else 0
def zbd:List Pg->Nat
 | []=>0
 | x::r=>(if x.kind=0 then 0 else 1)+zbd r
theorem zit:∀ ps:List Pg,zbd ps<=ps.length
 | []=>qan _
 | x::r=>by have:=zit r;unfold zbd;rw [qaF];split <;> omega
theorem zku:∀ a b:List Pg,zbd (a++b)=zbd a+zbd b
 | [],b=>by simp [zbd]
 | x::r,b=>by rw [qaK,zbd,zbd,zku r b];omega
theorem zoG{ps:List Pg}{k:Nat}{x:Pg}(h:ps[k]?=some x):zbd (ps.take (k+1))=zbd (ps.take k)+if x.kind=0 then 0 else 1:=by
 rw [zbc h,zku];simp [zbd]
def zeb(out:List (Int×Int))(k:Int)(x:Pg):List (Int×Int) :=
 if x.kind=0 then (match out.getLast? with | some r=>if r.1+r.2=k then out.dropLast++[(r.1,r.2+1)] else out++[(k,1)] | none=>[(k,1)]) else out
def zbe(ps:List Pg):Nat->List (Int×Int)
 | 0=>[]
 | k+1=>match ps[k]? with | some x=>zeb (zbe ps k) k x | none=>zbe ps k
def zlT(ps:List Pg):List (Int×Int):=zbe ps ps.length
def zau(ps:List Pg)(k:Int):Int:=match (zlT ps).find? (fun r=>decide (1<=k)&&decide (k<=r.2)) with | some r=>r.1 | none=>-1
def put(ps:List Pg)(i k:Nat)(x:Pg):List Pg:=ps.take i++List.replicate k x++ps.drop (i+k)
theorem zph(ps:List Pg)(i:Nat)(x:Pg):put ps i 0 x=ps:=by simp [put]
theorem ze6{ps:List Pg}{i k:Nat}{x:Pg}(h:i+k<=ps.length):(put ps i k x).length=ps.length:=by
 unfold put;rw [qaE,qaE,qau,qbb,qaI];omega
theorem zdJ{ps:List Pg}{i k:Nat}{x:Pg}(h:i+k<=ps.length){j:Nat}(hj:i+k<=j\/j<i):(put ps i k x)[j]?=ps[j]?:=by
 unfold put;rcases hj with hj | hj
 . rw [qbH (by rw [qaE,qau,qbb];omega),qbm]
   congr 1
   rw [qaE,qau,qbb];omega
 . rw [qaS,qbW (by rw [qau];omega),qa8,if_pos hj]
theorem zok{ps:List Pg}{i k:Nat}{x:Pg}(h:i+k<=ps.length){j:Nat}(h1:i<=j)(h2:j<i+k):(put ps i k x)[j]?=some x:=by
 unfold put;rw [qaS,qbH (by rw [qau];omega),qbW (by rw [qau,qbb];omega),List.getElem?_replicate,if_pos (by rw [qau];omega)]
theorem zyD{ps:List Pg}{i k:Nat}{x:Pg}(h:i+k<ps.length):(put ps i k x).set (i+k) x=put ps i (k+1) x:=by
 apply qbt
 intro j;rw [qaZ];have hl:(put ps i k x).length=ps.length:=ze6 (by omega)
 by_cases hj:i+k=j
 . rw [if_pos hj,if_pos (by omega),zok (by omega) (by omega) (by omega)]
 . rw [if_neg hj];by_cases h1:i<=j/\j<i+k
   . rw [zok (by omega) h1.1 h1.2,zok (by omega) h1.1 (by omega)]
   . rw [zdJ (by omega) (by omega),zdJ (by omega) (by omega)]
def zcw(ps:List Pg)(i k:Nat):Bool:=((ps.drop i).take k).all fun x=>decide (x.kind=0)
theorem zcV(ps:List Pg)(i:Nat):zcw ps i 0=true:=by simp [zcw]
theorem zck{ps:List Pg}{i k:Nat}{x:Pg}(h:ps[i+k]?=some x):zcw ps i (k+1)=(zcw ps i k&&decide (x.kind=0)):=by
 unfold zcw;rw [zbc (l:=ps.drop i) (k:=k) (x:=x) (by rw [qbm];exact h),List.all_append]
 simp
theorem zvY{ps:List Pg}{i k m:Nat}(h:zcw ps i k=true)(hm:m<=k):zcw ps i m=true:=by
 unfold zcw at *
 rw [qaN] at *
 intro x hx;refine h x ?_;rw [show (ps.drop i).take m=((ps.drop i).take k).take m from by rw [qbJ,qbx hm]]at hx
 exact qcs hx
def zhc(ps:List Pg)(i k:Int)(x y:Pg):List Pg:=if 0<=i/\i<ps.length/\k<=ps.length-i then (if zcw ps i.toNat k.toNat then (put ps i.toNat k.toNat y).set i.toNat x else []) else []
def zkR(ps:List Pg)(i k:Int):Int:=if 0<=i/\i<ps.length/\k<=ps.length-i then (if zcw ps i.toNat k.toNat then 0 else 20) else 2
def zb2(ps:List Pg)(i sp:Int):List Pg:=if 0<=sp/\sp<=1 then zhc ps i 1 ⟨1,sp,0,0⟩ Pg.zero else []
def zjl(ps:List Pg)(i sp:Int):Int:=if 0<=sp/\sp<=1 then zkR ps i 1 else 1
def zgd(pw np:Int)(ps:List Pg)(i sp n:Int):List Pg:=if 1<=zat pw np n/\0<=sp/\sp<=1 then zhc ps i (zat pw np n) ⟨2,sp,n,0⟩ ⟨3,sp,0,0⟩ else []
def zms(pw np:Int)(ps:List Pg)(i sp n:Int):Int:=if 1<=zat pw np n/\0<=sp/\sp<=1 then zkR ps i (zat pw np n) else 1
def zfV(n:Int):Bool:=decide (0<=n/\n<=2147483647)
def zcm(pw np:Int)(x:Pg)(r:List Pg)(due:Int):Option Int :=
 if ¬(x.kind=3↔0<due)\/x.space<0\/1<x.space\/zfV x.pins=false then none
 else if x.kind=0 then (if x=Pg.zero then some (max 0 (due-1)) else none)
 else if x.kind=1 then (if x.used<0\/pw<x.used then none else some (max 0 (due-1)))
 else if x.kind=2 then (if zat pw np x.used<1\/(zhd x.space r:Int)<zat pw np x.used-1 then none else some (max 0 (zat pw np x.used-1)))
 else if x.kind=3 then (if x.used=0/\x.pins=0 then some (max 0 (due-1)) else none)
 else none
def zaI(pw np:Int):List Pg->Int->Bool
 | [],_=>true
 | x::r,due=>match zcm pw np x r due with | some d=>zaI pw np r d | none=>false
def zgj(ps:List Pg)(b:Int):Bool:=decide (b = -1\/(0<=b/\b<ps.length/\(ps.getD b.toNat Pg.zero).kind=1))
def ze7(pw np:Int)(nw:Nat)(ps:List Pg)(sp b:Int):Bool :=
 confB pw np&&decide ((nw:Int)=np*pw)&&decide ((ps.length:Int)=np)&&decide (0<=sp/\sp<=1)&&zgj ps b&&zaI pw np ps 0
theorem ztu{pw n:Int}(h:n<=pw / 4):zeO pw n=0:=by unfold zeO;rw [if_pos h]
theorem zvR{pw n:Int}(hp:16<=pw)(h0:pw / 4<n)(h:4*pw<n):zeO pw n = -1:=by
 unfold zeO;rw [if_neg (by omega),if_neg (by omega),if_neg (by omega),if_neg (by omega),if_neg (by omega)]
theorem zey{out:List (Int×Int)}{k:Int}{x:Pg}(h:¬x.kind=0):zeb out k x=out:=by unfold zeb;rw [if_neg h]
theorem zdG{k:Int}{x:Pg}(h:x.kind=0):zeb [] k x=[(k,1)]:=by unfold zeb;rw [if_pos h];rfl
theorem zdb{pre:List (Int×Int)}{r:Int×Int}{k:Int}{x:Pg}(h:x.kind=0)(he:r.1+r.2=k):zeb (pre++[r]) k x=pre++[(r.1,r.2+1)]:=by
 unfold zeb;rw [if_pos h];simp [he]
theorem zdH{pre:List (Int×Int)}{r:Int×Int}{k:Int}{x:Pg}(h:x.kind=0)(he:¬r.1+r.2=k):zeb (pre++[r]) k x=pre++[r]++[(k,1)]:=by
 unfold zeb;rw [if_pos h];simp [he]
theorem zcS{ps:List Pg}{k:Nat}{x:Pg}(h:ps[k]?=some x):zbe ps (k+1)=zeb (zbe ps k) k x:=by
 rw [zbe,h]
theorem zgC(out:List (Int×Int)):out=[]\/∃ pre r,out=pre++[r]:=by
 rcases qcw out with h | ⟨pre,r,h⟩
 . exact Or.inl h
 . exact Or.inr ⟨pre,r,by rw [h,qcy]⟩
theorem zpa(ps:List Pg):∀ (k:Nat) (r:Int×Int),r∈zbe ps k->0<=r.1/\1<=r.2/\r.1+r.2<=k
 | 0,r,h=>by simp [zbe]at h
 | k+1,r,h=>by
  have ih:=zpa ps k;cases hx:ps[k]? with
  | none=>
   rw [zbe,hx]at h;have:=ih r h;omega
  | some x=>
   rw [zcS hx]at h;by_cases h0:x.kind=0
   . rcases zgC (zbe ps k) with e | ⟨pre,q,e⟩
     . rw [e,zdG h0]at h;simp at h;subst h;simp
     . rw [e]at h ih;have hq:=ih q (by simp)
       by_cases he:q.1+q.2=k
       . rw [zdb h0 he]at h;rcases qaq.1 h with h | h
         . have:=ih r (qaJ _ h);omega
         . simp at h;subst h;simp;omega
       . rw [zdH h0 he]at h;rcases qaq.1 h with h | h
         . have:=ih r h;omega
         . simp at h;subst h;simp
   . rw [zey h0]at h;have:=ih r h;omega
theorem zls(ps:List Pg):∀ k:Nat,(zbe ps k).length<=k
 | 0=>qan _
 | k+1=>by
  have ih:=zls ps k;cases hx:ps[k]? with
  | none=>rw [zbe,hx];exact Nat.le_succ_of_le ih
  | some x=>
   rw [zcS hx];by_cases h0:x.kind=0
   . rcases zgC (zbe ps k) with e | ⟨pre,q,e⟩
     . rw [e,zdG h0];simp
     . rw [e]at ih ⊢
       by_cases he:q.1+q.2=k
       . rw [zdb h0 he];simp at ih ⊢;omega
       . rw [zdH h0 he];simp at ih ⊢;omega
   . rw [zey h0];omega
def zaY(k:Int):List (Int×Int)->Int
 | []=>-1
 | r::t=>if 1<=k/\k<=r.2 then r.1 else zaY k t
theorem zht(ps:List Pg)(k:Int):zau ps k=zaY k (zlT ps):=by
 unfold zau;generalize zlT ps=l
 induction l with
 | nil=>rfl
 | cons r t ih=>
  rw [List.find?_cons,zaY];by_cases h:1<=k/\k<=r.2
  . rw [if_pos h];simp [h]
  . rw [if_neg h];have:(decide (1<=k)&&decide (k<=r.2))=false:=by simp;omega
    rw [this];exact ih
theorem zkw{k:Int}{l:List (Int×Int)}{i:Nat}{r:Int×Int}(h:l[i]?=some r):zaY k (l.drop i)=if 1<=k/\k<=r.2 then r.1 else zaY k (l.drop (i+1)):=by
 obtain ⟨hi,rfl⟩:=qar.1 h;rw [qaT hi,zaY]
theorem ziy{k:Int}{l:List (Int×Int)}{i:Nat}(h:l.length<=i):zaY k (l.drop i) = -1:=by
 rw [qbw h];rfl
theorem zyt{ps:List Pg}{i k:Int}{x y:Pg}(h:¬(0<=i/\i<ps.length/\k<=ps.length-i)):zhc ps i k x y=[]/\zkR ps i k=2:=by
 unfold zhc zkR;rw [if_neg h,if_neg h];exact ⟨rfl,rfl⟩
theorem zlL{ps:List Pg}{i k:Nat}{x y:Pg}(h:i<ps.length)(hk:i+k<=ps.length)(hf:zcw ps i k=true):zhc ps i k x y=(put ps i k y).set i x/\zkR ps i k=0:=by
 have hc:0<=(i:Int)/\(i:Int)<ps.length/\(k:Int)<=ps.length-i:=⟨by omega,by omega,by omega⟩
 unfold zhc zkR;rw [if_pos hc,if_pos hc,qac,qac,if_pos hf,if_pos hf];exact ⟨rfl,rfl⟩
theorem zoH{ps:List Pg}{i k m:Nat}{x:Pg}(hx:ps[i+m]?=some x)(hm:m<k)(h:¬x.kind=0):zcw ps i k=false:=by
 rw [<-qbu];intro hf;have:=zvY hf (show m+1<=k from hm)
 rw [zck hx]at this;simp at this;exact h this.2
structure Hp where
 pw:Int
 np:Int
 words:List Int
 pages:List Pg
 space:Int
 bump:Int
def Hp.zero:Hp:=⟨0,0,[],[],0,0⟩
def WB(xs:List Int):Prop:=∀ x∈xs,0<=x/\x<18446744073709551616
theorem WB.zeros(n:Nat):WB (List.replicate n 0):=by
 intro x hx;obtain ⟨_,rfl⟩:=List.mem_replicate.1 hx;omega
theorem WB.nil:WB []:=fun x h=>by cases h
def zpL(pw np:Int):Hp:=if confB pw np then ⟨pw,np,List.replicate (np*pw).toNat 0,List.replicate np.toNat Pg.zero,0,-1⟩ else Hp.zero
def newHE(pw np:Int):Int:=if confB pw np then 0 else 1
theorem zts{pw np:Int}(h:confB pw np=true):zpL pw np=⟨pw,np,List.replicate (np*pw).toNat 0,List.replicate np.toNat Pg.zero,0,-1⟩/\newHE pw np=0:=by
 unfold zpL newHE;rw [if_pos h,if_pos h];exact ⟨rfl,rfl⟩
def zf1(n:Int):Int:=2 ^ min n.toNat 64-1
def zfE(n:Int):Nat:=2 ^ min n.toNat 64-1
theorem zyH(k:Nat)(h:k<=64):(2:Nat) ^ k<=18446744073709551616:=by
 have:(2:Nat) ^ k<=2 ^ 64:=qb5 (by decide) h
 simpa using this
theorem zyG(k:Nat)(h:k<64):(2:Nat) ^ k<=9223372036854775808:=by
 have:(2:Nat) ^ k<=2 ^ 63:=qb5 (by decide) (by omega)
 simpa using this
theorem zlt(k:Nat):1<=(2:Nat) ^ k:=Nat.one_le_two_pow
theorem zge(k:Nat):((2 ^ k:Nat):Int)=(2:Int) ^ k:=by rw [qci];rfl
theorem zxO(k:Nat)(h:k<64):(2:Int) ^ k<=9223372036854775808:=by
 have:=zyG k h;rw [<-zge];omega
theorem zxN(k:Nat):1<=(2:Int) ^ k:=by
 have:=zlt k;rw [<-zge];omega
theorem zos(n:Int):zf1 n=((zfE n:Nat):Int):=by
 unfold zf1 zfE;have:=zlt (min n.toNat 64)
 rw [Int.natCast_sub this];simp
theorem zxp(n:Int)(h:n<0):zf1 n=0:=by
 unfold zf1;have:n.toNat=0:=by omega
 simp [this]
theorem zyS(n:Int):zfE n<18446744073709551616:=by
 unfold zfE;have:=zyH (min n.toNat 64) (by omega);have:=zlt (min n.toNat 64);omega
theorem shr_lt(x k:Nat)(hx:x<18446744073709551616):x >>> k<18446744073709551616:=by
 rw [qbO];exact Nat.lt_of_le_of_lt (Nat.div_le_self _ _) hx
theorem zlF(v:Nat)(n:Int):v &&& zfE n=v % 2 ^ min n.toNat 64:=by
 unfold zfE;exact qck v _
def fitL:Int->List Int->Bool
 | _,[]=>true
 | left,x::r=>if x<1\/left<x then false else fitL (left-x) r
theorem zpZ{left x:Int}{ws:List Int}{k:Nat}(hx:ws[k]?=some x)(h:x<1\/left<x):fitL left (ws.drop k)=false:=by
 obtain ⟨hk,rfl⟩:=qar.1 hx;rw [qaT hk,fitL,if_pos h]
theorem zu9{left x:Int}{ws:List Int}{k:Nat}(hx:ws[k]?=some x)(h1:¬x<1)(h2:¬left<x):fitL left (ws.drop k)=fitL (left-x) (ws.drop (k+1)):=by
 obtain ⟨hk,rfl⟩:=qar.1 hx;rw [qaT hk,fitL,if_neg (by omega)]
theorem zvb{left:Int}{ws:List Int}{k:Nat}(hk:ws.length<=k):fitL left (ws.drop k)=true:=by
 rw [qbw hk,fitL]
theorem zrS{left x:Int}{r:List Int}(h:fitL left (x::r)=true):1<=x/\x<=left/\fitL (left-x) r=true:=by
 rw [fitL]at h;by_cases c:x<1\/left<x
 . rw [if_pos c]at h;cases h
 . rw [if_neg c]at h;exact ⟨by omega,by omega,h⟩
def sumW:List Int->Nat
 | []=>0
 | x::r=>x.toNat+sumW r
theorem zva:∀ (ws:List Int) (left:Int),0<=left->fitL left ws=true->(sumW ws:Int)<=left
 | [],_,h,_=>by simp [sumW];exact h
 | x::r,left,h,hf=>by
  obtain ⟨h1,h2,h3⟩:=zrS hf;have:=zva r (left-x) (by omega) h3
  rw [sumW];omega
theorem zp0:∀ (ws:List Int) (left:Int),0<=left->fitL left ws=true->∀ x∈ws,1<=x/\x<=left
 | [],_,_,_,x,hx=>by cases hx
 | y::r,left,h,hf,x,hx=>by
  obtain ⟨h1,h2,h3⟩:=zrS hf;rcases qap.1 hx with rfl | hx
  . exact ⟨h1,h2⟩
  . have:=zp0 r (left-y) (by omega) h3 x hx
    omega
theorem zqL:∀ (k:Nat) (ws:List Int),sumW (ws.drop k)<=sumW ws
 | 0,ws=>by simp
 | _+1,[]=>by simp
 | k+1,x::r=>by
  have:=zqL k r
  rw [List.drop_succ_cons,sumW];omega
def okF(fs:B4):Bool:=fs.all fun f=>decide ((f.2:Int)<=zf1 f.1)
def zkT:List (Int×Nat)->Nat
 | []=>0
 | f::r=>zkT r <<< f.1.toNat ||| f.2
def zq2(fs:B4):Int×Int:=if fitL 64 (fs.map (·.1))=true then (if okF fs=true then ((zkT fs:Nat),0) else (0,2)) else (0,1)
theorem znW{v:Nat}{x:Int}(h1:x<=64)(h:(v:Int)<=zf1 x):v<2 ^ x.toNat:=by
 have e:min x.toNat 64=x.toNat:=by omega
 have hp:=zlt x.toNat;rw [zos]at h;unfold zfE at h;rw [e]at h;omega
theorem join_lt{a b s t:Nat}(ha:a<2 ^ s)(hb:b<2 ^ t):a <<< t ||| b<2 ^ (s+t):=by
 rw [<-Nat.shiftLeft_add_eq_or_of_lt hb,Nat.shiftLeft_eq,Nat.pow_add];calc a*2 ^ t+b<a*2 ^ t+2 ^ t:=by omega
  _=(a+1)*2 ^ t:=by rw [qaL];omega
  _<=2 ^ s*2 ^ t:=qaR _ ha
theorem zuL:∀ (fs:B4),okF fs=true->(∀ x∈fs.map (·.1),1<=x/\x<=64)->zkT fs<2 ^ sumW (fs.map (·.1))
 | [],_,_=>by simp [zkT,sumW]
 | f::r,hok,hw=>by
  simp only [okF,qb2,qae,qab]at hok;have h1:=zuL r hok.2 (fun x hx=>hw x (qaD _ hx))
  have h2:=znW (hw f.1 (by simp)).2 hok.1
  have:=join_lt h1 h2
  rw [zkT,qaW,sumW,Nat.add_comm];exact this
theorem zu8{fs:List (Int×Nat)}(hf:fitL 64 (fs.map (·.1))=true)(k:Nat):(∀ x∈(fs.drop k).map (·.1),1<=x/\x<=64)/\sumW ((fs.drop k).map (·.1))<=64:=by
 refine ⟨fun x hx=>zp0 _ _ (by omega) hf x ?_,?_⟩
 . rw [List.map_drop]at hx;exact qcr hx
 . rw [List.map_drop];have h1:=zqL k (fs.map (·.1));have h2:=zva _ _ (by omega) hf
   omega
theorem zyJ{fs:List (Int×Nat)}{i:Nat}{x:Int×Nat}(hx:fs[i]?=some x)(hv:¬(x.2:Int)<=zf1 x.1):okF fs=false:=by
 rw [<-qbu];intro h;have:=qaN.1 h x (qba hx)
 simp at this;exact hv this
def zaz(k n m:Int):Bool:=decide (0<=k/\k<=3/\0<=n/\n<=255/\(k=1->n<=32/\m<2 ^ n.toNat)/\(¬k=1->m=0))
theorem zay{k n m:Int}(h:zaz k n m=true):0<=k/\k<=3/\0<=n/\n<=255/\(k=1->n<=32/\m<2 ^ n.toNat)/\(¬k=1->m=0):=by
 unfold zaz at h;exact qat h
theorem zhP{k n m:Int}(h:0<=k/\k<=3/\0<=n/\n<=255/\(k=1->n<=32/\m<2 ^ n.toNat)/\(¬k=1->m=0)):zaz k n m=true:=by
 unfold zaz;exact qad h
theorem zcn{k n m:Int}(h:¬(0<=k/\k<=3/\0<=n/\n<=255/\(k=1->n<=32/\m<2 ^ n.toNat)/\(¬k=1->m=0))):zaz k n m=false:=by
 unfold zaz;exact qaj h
theorem zyI(n:Int)(h:n<=32):(2:Int) ^ n.toNat<=4294967296:=by
 have:(2:Nat) ^ n.toNat<=2 ^ 32:=qb5 (by decide) (by omega)
 rw [<-zge];omega
theorem zlH{k n m:Int}(h:zaz k n m=true):m<4294967296:=by
 obtain ⟨h1,h2,h3,h4,h5,h6⟩:=zay h;by_cases c:k=1
 . obtain ⟨h7,h8⟩:=h5 c;have:=zyI n h7;omega
 . have:=h6 c;omega
def zd8(k n m:Int):Int:=1+4*k+16*n+65536*m
def encV(k n m:Int):Int:=if zaz k n m then zd8 k n m else 0
def encE(k n m:Int):Int:=if zaz k n m then 0 else 1
theorem zsH{k n m:Int}(h:zaz k n m=true)(hm:0<=m):0<=zd8 k n m/\zd8 k n m<281474976710656:=by
 have:=zlH h
 obtain ⟨h1,h2,h3,h4,h5,h6⟩:=zay h;unfold zd8;omega
def dK(x:Nat):Nat:=x / 4 % 4
def dN(x:Nat):Nat:=x / 16 % 4096
def dM(x:Nat):Nat:=x / 65536 % 4294967296
def okD(x:Nat):Bool:=decide (x % 4=1)&&decide (x<281474976710656)&&zaz (dK x) (dN x) (dM x)
def decK(x:Nat):Int:=if okD x then dK x else 0
def decN(x:Nat):Int:=if okD x then dN x else 0
def decM(x:Nat):Int:=if okD x then dM x else 0
theorem zrY{x:Nat}(h:okD x=true):decK x=dK x/\decN x=dN x/\decM x=dM x:=by
 unfold decK decN decM;rw [if_pos h,if_pos h,if_pos h];exact ⟨rfl,rfl,rfl⟩
theorem zrZ{x:Nat}(h:okD x=false):decK x=0/\decN x=0/\decM x=0:=by
 unfold decK decN decM;rw [if_neg (by simp [h]),if_neg (by simp [h]),if_neg (by simp [h])];exact ⟨rfl,rfl,rfl⟩
theorem zct{x:Nat}(h:okD x=true):x % 4=1/\x<281474976710656/\zaz (dK x) (dN x) (dM x)=true:=by
 unfold okD at h;simp only [qae,qab]at h;exact ⟨h.1.1,h.1.2,h.2⟩
theorem zzx{x:Nat}(h1:x % 4=1)(h2:x<281474976710656)(h3:zaz (dK x) (dN x) (dM x)=true):okD x=true:=by
 unfold okD;simp only [qae,qab];exact ⟨⟨h1,h2⟩,h3⟩
theorem zxq{x:Nat}(h:¬x % 4=1\/¬x<281474976710656\/zaz (dK x) (dN x) (dM x)=false):okD x=false:=by
 rw [<-qbu];intro c;obtain ⟨h1,h2,h3⟩:=zct c
 rcases h with h | h | h
 . exact h h1
 . exact h h2
 . rw [h3]at h;cases h
theorem zzd{x:Nat}(h:okD x=true):zd8 (dK x) (dN x) (dM x)=x:=by
 obtain ⟨h1,h2,h3⟩:=zct h;obtain ⟨_,_,_,h4,_,_⟩:=zay h3;unfold zd8 dK dN dM at *;omega
theorem zuy{k n m:Int}(h:zaz k n m=true)(hm:0<=m){x:Nat}(hx:zd8 k n m=x):okD x=true/\(dK x:Int)=k/\(dN x:Int)=n/\(dM x:Int)=m:=by
 have hm2:=zlH h;obtain ⟨h1,h2,h3,h4,h5,h6⟩:=zay h;have e1:(dK x:Int)=k:=by unfold zd8 at hx;unfold dK;omega
 have e2:(dN x:Int)=n:=by unfold zd8 at hx;unfold dN;omega
 have e3:(dM x:Int)=m:=by unfold zd8 at hx;unfold dM;omega
 refine ⟨zzx ?_ ?_ ?_,e1,e2,e3⟩
 . unfold zd8 at hx;omega
 . unfold zd8 at hx;omega
 . rw [e1,e2,e3];exact h
theorem zo2{x:Nat}:okD x=true↔zaz (dK x) (dN x) (dM x)=true/\zd8 (dK x) (dN x) (dM x)=x :=
 ⟨fun h=>⟨(zct h).2.2,zzd h⟩,fun h=>(zuy h.1 (Int.natCast_nonneg _) h.2).1⟩
def fwdV(a:Int):Int:=if a<4294967296 then 4*a+2 else 0
def fwdE(a:Int):Int:=if a<4294967296 then 0 else 1
theorem fwd_ok{a:Int}(h:a<4294967296):fwdV a=4*a+2/\fwdE a=0:=by
 unfold fwdV fwdE;rw [if_pos h,if_pos h];exact ⟨rfl,rfl⟩
def okT(x:Nat):Bool:=decide (x % 4=2)&&decide (x<17179869184)
def tgtV(x:Nat):Int:=if okT x then ((x / 4:Nat):Int) else 0
theorem zq6{x:Nat}(h:okT x=true):x % 4=2/\x<17179869184:=by
 unfold okT at h;simp only [qae,qab]at h;exact h
theorem okT_mk{x:Nat}(h1:x % 4=2)(h2:x<17179869184):okT x=true:=by
 unfold okT;simp only [qae,qab];exact ⟨h1,h2⟩
theorem tgt_ok{x:Nat}(h:okT x=true):tgtV x=((x / 4:Nat):Int):=by unfold tgtV;rw [if_pos h]
theorem tgt_no{x:Nat}(h:okT x=false):tgtV x=0:=by unfold tgtV;rw [if_neg (by simp [h])]
theorem apart(x:Nat):¬(okD x=true/\okT x=true):=by
 rintro ⟨h,k⟩;have:=(zct h).1;have:=(zq6 k).1;omega
def zaP(k n m:Int):Int:=if zaz k n m then n+1 else 0
theorem zcq{k n m:Int}(h:zaz k n m=true):zaP k n m=n+1:=by unfold zaP;rw [if_pos h]
theorem zsP{k n m:Int}(h:zaz k n m=false):zaP k n m=0:=by unfold zaP;rw [if_neg (by simp [h])]
def ptrB(k n m i:Int):Bool:=zaz k n m&&decide (0<=i)&&decide (i<n)&&(decide (k=2) || (decide (k=1)&&m.toNat.testBit i.toNat))
def zdc(k n m:Int)(j:Nat):List Int:=((List.range j).map Int.ofNat).filter (fun i=>ptrB k n m i)
def zgM(k n m:Int):List Int:=if zaz k n m then zdc k n m n.toNat else []
theorem zlY(k n m:Int)(j:Nat):zdc k n m (j+1)=if ptrB k n m j then zdc k n m j++[(j:Int)] else zdc k n m j:=by
 unfold zdc;rw [List.range_succ,qa1,List.filter_append];by_cases h:ptrB k n m j=true
 . rw [if_pos h];have:([j].map Int.ofNat).filter (fun i=>ptrB k n m i)=[(j:Int)]:=by simp [h]
   rw [this]
 . rw [if_neg h];have:([j].map Int.ofNat).filter (fun i=>ptrB k n m i)=[]:=by simp [h]
   rw [this,qaX]
theorem zvE(k n m:Int)(j:Nat):(zdc k n m j).length<=j:=by
 unfold zdc;refine qaB (qbN _ _) ?_;simp
theorem zvD{k n m:Int}{j:Nat}{x:Int}(h:x∈zdc k n m j):ptrB k n m x=true:=(qbM.1 h).2
theorem zqR{k n m:Int}{x:Int}(h:x∈zgM k n m):ptrB k n m x=true:=by
 unfold zgM at h;by_cases c:zaz k n m=true
 . rw [if_pos c]at h;exact zvD h
 . rw [if_neg c]at h;cases h
theorem zsU{k n m:Int}(h:zaz k n m=true):zgM k n m=zdc k n m n.toNat:=by unfold zgM;rw [if_pos h]
theorem zw8{k n m:Int}(h:zaz k n m=false):zgM k n m=[]:=by unfold zgM;rw [if_neg (by simp [h])]
theorem ptr_bd{k n m i:Int}(h:ptrB k n m i=true):0<=i/\i<256:=by
 unfold ptrB at h;simp only [qae,qab]at h
 obtain ⟨⟨⟨h1,h2⟩,h3⟩,_⟩:=h;obtain ⟨_,_,_,h4,_⟩:=zay h1;omega
def okA(len:Nat)(a:Int)(n:Nat):Bool:=decide (4096<=a/\a-4096+n<=len)
theorem zpn(i:Nat):((4096+(i:Int))-4096).toNat=i:=by omega
def zmw(len:Nat)(a:Int):Int:=if okA len a 1 then a-4096 else 0
def zmx(len:Nat)(a:Int):Int:=if okA len a 1 then 0 else 2
def zaq(xs:List Int)(a:Int):Int:=if okA xs.length a 1 then xs.getD (a-4096).toNat 0 else 0
def zgS(xs:List Int)(a:Int):Int:=if okA xs.length a 1 then 0 else 2
def zlX(xs:List Int)(a n:Int):List Int:=if n<0 then [] else if okA xs.length a n.toNat then (xs.drop (a-4096).toNat).take n.toNat else []
def zpf(xs:List Int)(a n:Int):Int:=if n<0 then 1 else if okA xs.length a n.toNat then 0 else 2
def zaC(xs:List Int)(a:Int)(l:List Int):List Int:=if okA xs.length a l.length then splice xs (a-4096).toNat l else []
def zdo(xs:List Int)(a:Int)(l:List Int):Int:=if okA xs.length a l.length then 0 else 2
def zdw(xs:List Int)(t f n:Int):List Int:=if n<0 then [] else if okA xs.length t n.toNat/\okA xs.length f n.toNat then splice xs (t-4096).toNat ((xs.drop (f-4096).toNat).take n.toNat) else []
def zvS(xs:List Int)(t f n:Int):Int:=if n<0 then 1 else if okA xs.length t n.toNat/\okA xs.length f n.toNat then 0 else 2
theorem nneg(n:Nat):¬((n:Int)<0):=by omega
theorem index_ok{len i:Nat}(h:okA len (4096+(i:Int)) 1=true):zmw len (4096+(i:Int))=i/\zmx len (4096+(i:Int))=0:=by
 unfold zmw zmx;rw [if_pos h,if_pos h];exact ⟨by omega,rfl⟩
theorem zuX{xs:List Int}{i:Nat}{x:Int}(h:okA xs.length (4096+(i:Int)) 1=true)(hx:xs[i]?=some x):zaq xs (4096+(i:Int))=x/\zgS xs (4096+(i:Int))=0:=by
 unfold zaq zgS;rw [if_pos h,if_pos h,zpn,qay,hx];exact ⟨rfl,rfl⟩
theorem zyB{xs:List Int}{a n:Int}(h:n<0):zlX xs a n=[]/\zpf xs a n=1:=by
 unfold zlX zpf;rw [if_pos h,if_pos h];exact ⟨rfl,rfl⟩
theorem read_ok{xs:List Int}{i n:Nat}(h:okA xs.length (4096+(i:Int)) n=true):zlX xs (4096+(i:Int)) n=(xs.drop i).take n/\zpf xs (4096+(i:Int)) n=0:=by
 unfold zlX zpf;rw [if_neg (nneg n),if_neg (nneg n),qac,if_pos h,if_pos h,zpn];exact ⟨rfl,rfl⟩
theorem read_no{xs:List Int}{a:Int}{n:Nat}(h:okA xs.length a n=false):zlX xs a n=[]/\zpf xs a n=2:=by
 unfold zlX zpf;rw [if_neg (nneg n),if_neg (nneg n),qac,if_neg (by simp [h]),if_neg (by simp [h])];exact ⟨rfl,rfl⟩
theorem zym{xs l:List Int}{i:Nat}(h:okA xs.length (4096+(i:Int)) l.length=true):zaC xs (4096+(i:Int)) l=splice xs i l/\zdo xs (4096+(i:Int)) l=0:=by
 unfold zaC zdo;rw [if_pos h,if_pos h,zpn];exact ⟨rfl,rfl⟩
theorem zyn{xs l:List Int}{a:Int}(h:okA xs.length a l.length=false):zaC xs a l=[]/\zdo xs a l=2:=by
 unfold zaC zdo;rw [if_neg (by simp [h]),if_neg (by simp [h])];exact ⟨rfl,rfl⟩
theorem zcQ{xs l:List Int}{i:Nat}(h:i+l.length<=xs.length):(splice xs i l).length=xs.length:=length_splice xs i l h
theorem zfR{xs l:List Int}{i j:Nat}(h:i+l.length<=xs.length)(h1:i<=j)(h2:j<i+l.length):(splice xs i l)[j]?=l[j-i]?:=by
 unfold splice;have e:(xs.take i).length=i:=by rw [qau];omega
 rw [qbH (by omega),e,qbW (by omega)]
theorem zgB{xs l:List Int}{i j:Nat}(h:i+l.length<=xs.length)(h1:j<i\/i+l.length<=j):(splice xs i l)[j]?=xs[j]?:=by
 unfold splice;have e:(xs.take i).length=i:=by rw [qau];omega
 rcases h1 with h1 | h1
 . rw [qbW (by omega),qa8,if_pos h1]
 . rw [qbH (by omega),e,qbH (by omega),qbm]
   congr 1;omega
structure Hd where
 k:Int
 n:Int
 m:Int
 deriving DecidableEq
def Hd.zero:Hd:=⟨0,0,0⟩
def okH(h:Hp):Bool:=ze7 h.pw h.np h.words.length h.pages h.space h.bump
def zb0(h:Hp)(a:Int):Pg:=h.pages.getD (ofI h.pw h.np a).toNat Pg.zero
def za1(h:Hp)(a:Int):Nat:=(h.words.getD (a-4096).toNat 0).toNat
def hdOf(x:Nat):Hd:=⟨dK x,dN x,dM x⟩
def atB(h:Hp)(a:Int):Bool :=
 decide ((zb0 h a).kind=1\/(zb0 h a).kind=2)&&decide (ofK h.pw h.np a<(zb0 h a).used)&&okD (za1 h a) &&
 (if (zb0 h a).kind=1 then decide (ofK h.pw h.np a+(dN (za1 h a)+1)<=(zb0 h a).used) else decide (ofK h.pw h.np a=0/\(dN (za1 h a):Int)+1=(zb0 h a).used))
def atE(h:Hp)(a:Int):Int:=if okH h then (if ofE h.pw h.np a=0 then (if atB h a then 0 else 19) else 2) else 1
def atH(h:Hp)(a:Int):Hd:=if atE h a=0 then hdOf (za1 h a) else Hd.zero
def getE(h:Hp)(a:Int):Int:=if okH h then (if a=0 then 5 else if atE h a=0/\(atH h a).k=0 then 4 else atE h a) else 1
def getH(h:Hp)(a:Int):Hd:=if getE h a=0 then atH h a else Hd.zero
def zky(h:Hp)(a i:Int):Int:=if getE h a=0 then (if i<0\/(getH h a).n<=i then 2 else zgS h.words (a+1+i)) else getE h a
def zzD(h:Hp)(a i:Int):Int:=if getE h a=0 then (if i<0\/(getH h a).n<=i then 0 else zaq h.words (a+1+i)) else 0
def setE(h:Hp)(a i:Int):Int:=zky h a i
def setV(h:Hp)(a i v:Int):Hp:=if zky h a i=0 then { h with words:=zaC h.words (a+1+i) [v] } else Hp.zero
theorem zam{h:Hp}(hp:okH h=true):confB h.pw h.np=true/\(h.words.length:Int)=h.np*h.pw/\(h.pages.length:Int)=h.np/\0<=h.space/\h.space<=1/\zgj h.pages h.bump=true/\zaI h.pw h.np h.pages 0=true:=by
 unfold okH ze7 at hp;simp only [qae,qab]at hp;obtain ⟨⟨⟨⟨⟨h1,h2⟩,h3⟩,h4⟩,h5⟩,h6⟩:=hp;exact ⟨h1,h2,h3,h4.1,h4.2,h5,h6⟩
theorem zbO(pw np:Int):∀ (ps:List Pg) (due:Int),zaI pw np ps due=true->∀ x∈ps,0<=x.space/\x.space<=1/\0<=x.pins/\x.pins<=2147483647/\(x.kind=0->x=Pg.zero)/\(x.kind=1->0<=x.used/\x.used<=pw)/\(x.kind=2->1<=zat pw np x.used)/\(x.kind=3->x.used=0/\x.pins=0)/\(x.kind=0\/x.kind=1\/x.kind=2\/x.kind=3)
 | [],_,_,x,hx=>by cases hx
 | y::r,due,h,x,hx=>by
  rw [zaI]at h;cases hs:zcm pw np y r due with
  | none=>rw [hs]at h;cases h
  | some d=>
   rw [hs]at h;rcases qap.1 hx with rfl | hx
   . unfold zcm at hs;split at hs
     . cases hs
     . rename_i hA;have h1:0<=x.space:=by omega
       have h2:x.space<=1:=by omega
       have h3:zfV x.pins=true:=by
        cases hp:zfV x.pins
        . exact absurd (Or.inr (Or.inr (Or.inr hp))) hA
        . rfl
       have h4:=qat h3;refine ⟨h1,h2,h4.1,h4.2,?_⟩;split at hs
       . rename_i k;refine ⟨fun _=>?_,fun c=>by omega,fun c=>by omega,fun c=>by omega,Or.inl k⟩
         split at hs
         . assumption
         . cases hs
       . split at hs
         . rename_i k;refine ⟨fun c=>by omega,fun _=>?_,fun c=>by omega,fun c=>by omega,Or.inr (Or.inl k)⟩
           split at hs
           . cases hs
           . omega
         . split at hs
           . rename_i k;refine ⟨fun c=>by omega,fun c=>by omega,fun _=>?_,fun c=>by omega,Or.inr (Or.inr (Or.inl k))⟩
             split at hs
             . cases hs
             . omega
           . split at hs
             . rename_i k;refine ⟨fun c=>by omega,fun c=>by omega,fun c=>by omega,fun _=>?_,Or.inr (Or.inr (Or.inr k))⟩
               split at hs
               . assumption
               . cases hs
             . cases hs
   . exact zbO pw np r d h x hx
theorem zxr{h:Hp}{a:Int}(hp:okH h=true)(he:ofE h.pw h.np a=0):inAr h.pw h.np a=true/\(∃ i j:Nat,ofI h.pw h.np a=i/\ofK h.pw h.np a=j/\i<h.pages.length/\(j:Int)<h.pw/\a=4096+i*h.pw+j)/\(∃ t:Nat,a=4096+t/\t<h.words.length):=by
 obtain ⟨h1,h2,h3,_⟩:=zam hp;have hc:=zaj h1;have hin:inAr h.pw h.np a=true:=by
  cases hi:inAr h.pw h.np a
  . rw [(zf3 h1 hi).2.2]at he;cases he
  . rfl
 obtain ⟨e1,e2,_⟩:=zl7 h1 hin;obtain ⟨b1,b2⟩:=qat hin;have m1:=Int.emod_nonneg (a-4096) (show h.pw≠0 by omega)
 have m2:=Int.emod_lt_of_pos (a-4096) (show 0<h.pw by omega)
 have d1:0<=(a-4096) / h.pw:=qbT (by omega) (by omega)
 have d2:(a-4096) / h.pw<h.np:=qcl (by omega) (by omega)
 have de:=Int.mul_ediv_add_emod (a-4096) h.pw;refine ⟨hin,⟨((a-4096) / h.pw).toNat,((a-4096) % h.pw).toNat,by rw [e1];omega,by rw [e2];omega,by omega,by omega,?_⟩,⟨(a-4096).toNat,by omega,by omega⟩⟩
 rw [qcD d1,qcD m1,Int.mul_comm];omega
theorem zsW{pw np:Int}{ps:List Pg}{k:Nat}{x:Pg}(h:ps[k]?=some x)(due:Int):zaI pw np (ps.drop k) due=match zcm pw np x (ps.drop (k+1)) due with | some d=>zaI pw np (ps.drop (k+1)) d | none=>false:=by
 obtain ⟨hk,rfl⟩:=qar.1 h;rw [qaT hk,zaI]
def wrow(xs l:List Int)(i k:Nat):List Int:=splice xs i (l.take k)
theorem zo1{xs l:List Int}{i k:Nat}(h:i+l.length<=xs.length):(wrow xs l i k).length=xs.length:=by
 unfold wrow;rw [zcQ (by rw [qau];omega)]
theorem zqF(xs l:List Int)(i:Nat):wrow xs l i 0=xs:=by unfold wrow splice;simp
theorem zuw{xs l:List Int}{i k:Nat}(h:l.length<=k):wrow xs l i k=splice xs i l:=by unfold wrow;rw [qa2 h]
theorem zuv{xs l:List Int}{i k:Nat}{x:Int}(h:i+l.length<=xs.length)(hx:l[k]?=some x):(wrow xs l i k).set (i+k) x=wrow xs l i (k+1):=by
 have hk:=(qar.1 hx).1;apply qbt
 intro j;have hl1:(l.take k).length=k:=by rw [qau];omega
 have hl2:(l.take (k+1)).length=k+1:=by rw [qau];omega
 rw [qaZ];by_cases h1:i+k=j
 . subst h1;rw [if_pos rfl,if_pos (by rw [zo1 h];omega)]
   unfold wrow;rw [zfR (by omega) (by omega) (by omega),qa8,if_pos (by omega),show i+k-i=k from by omega,hx]
 . rw [if_neg h1];unfold wrow;by_cases h2:i<=j/\j<i+k
   . rw [zfR (by omega) (by omega) (by omega),zfR (by omega) (by omega) (by omega),qa8,qa8,if_pos (by omega),if_pos (by omega)]
   . rw [zgB (by omega) (by omega),zgB (by omega) (by omega)]
theorem zw6(xs:List Int)(a m:Int):(zlX xs a m).length<=xs.length:=by
 unfold zlX;by_cases h1:m<0
 . rw [if_pos h1];exact qbh _
 . rw [if_neg h1];by_cases h2:okA xs.length a m.toNat=true
   . rw [if_pos h2,qau,qaI];omega
   . rw [if_neg h2];exact qbh _
theorem ztU{h:Hp}{a:Int}(h1:okH h=false):atE h a=1/\atH h a=Hd.zero:=by
 have e:atE h a=1:=by unfold atE;rw [if_neg (by simp [h1])]
 exact ⟨e,by unfold atH;rw [if_neg (by rw [e];decide)]⟩
theorem zjV{h:Hp}{a:Int}(h1:okH h=true)(h2:¬ofE h.pw h.np a=0):atE h a=2/\atH h a=Hd.zero:=by
 have e:atE h a=2:=by unfold atE;rw [if_pos h1,if_neg h2]
 exact ⟨e,by unfold atH;rw [if_neg (by rw [e];decide)]⟩
theorem zr8{h:Hp}{a:Int}(h1:okH h=true)(h2:ofE h.pw h.np a=0)(h3:atB h a=false):atE h a=19/\atH h a=Hd.zero:=by
 have e:atE h a=19:=by unfold atE;rw [if_pos h1,if_pos h2,if_neg (by simp [h3])]
 exact ⟨e,by unfold atH;rw [if_neg (by rw [e];decide)]⟩
theorem zoS{h:Hp}{a:Int}(h1:okH h=true)(h2:ofE h.pw h.np a=0)(h3:atB h a=true):atE h a=0/\atH h a=hdOf (za1 h a):=by
 have e:atE h a=0:=by unfold atE;rw [if_pos h1,if_pos h2,if_pos h3]
 exact ⟨e,by unfold atH;rw [if_pos e]⟩
theorem zwL{h:Hp}{a:Int}(hw:WB h.words)(hp:okH h=true)(he:ofE h.pw h.np a=0):zaq h.words a=za1 h a/\zgS h.words a=0/\za1 h a<18446744073709551616:=by
 obtain ⟨_,_,t,rfl,ht⟩:=zxr hp he;have hx:h.words[t]?=some (h.words[t]):=qas ht
 have hk:okA h.words.length (4096+(t:Int)) 1=true:=qad (by omega)
 obtain ⟨e1,e2⟩:=zuX hk hx;obtain ⟨b1,b2⟩:=hw _ (List.getElem_mem ht);have e3:za1 h (4096+(t:Int))=(h.words[t]).toNat:=by unfold za1;rw [zpn,qay,hx];rfl
 rw [e1,e2,e3];exact ⟨by omega,rfl,by omega⟩
theorem ziv{h:Hp}{a:Int}(e:¬getE h a=0):getH h a=Hd.zero:=by unfold getH;rw [if_neg e]
theorem zu7{h:Hp}{a:Int}(h1:okH h=false):getE h a=1/\getH h a=Hd.zero:=by
 have e:getE h a=1:=by unfold getE;rw [if_neg (by simp [h1])]
 exact ⟨e,ziv (by rw [e];decide)⟩
theorem zrM{h:Hp}(h1:okH h=true):getE h 0=5/\getH h 0=Hd.zero:=by
 have e:getE h 0=5:=by unfold getE;rw [if_pos h1,if_pos rfl]
 exact ⟨e,ziv (by rw [e];decide)⟩
theorem zrN{h:Hp}{a:Int}(h1:okH h=true)(h2:¬a=0)(h3:atE h a=0)(h4:(atH h a).k=0):getE h a=4/\getH h a=Hd.zero:=by
 have e:getE h a=4:=by unfold getE;rw [if_pos h1,if_neg h2,if_pos ⟨h3,h4⟩]
 exact ⟨e,ziv (by rw [e];decide)⟩
theorem ztE{h:Hp}{a:Int}(h1:okH h=true)(h2:¬a=0)(h3:¬(atE h a=0/\(atH h a).k=0)):getE h a=atE h a/\getH h a=atH h a:=by
 have e:getE h a=atE h a:=by unfold getE;rw [if_pos h1,if_neg h2,if_neg h3]
 refine ⟨e,?_⟩;unfold getH;by_cases h4:getE h a=0
 . rw [if_pos h4]
 . rw [if_neg h4];rw [e]at h4;unfold atH;rw [if_neg h4]
theorem ztD{h:Hp}{a:Int}(e:getE h a=0):okH h=true/\atE h a=0/\getH h a=atH h a/\ofE h.pw h.np a=0/\atB h a=true/\4096<=a/\a<8192/\0<=(getH h a).n/\(getH h a).n<=255/\¬(getH h a).k=0:=by
 have h1:okH h=true:=by
  cases h1:okH h
  . rw [(zu7 (a:=a) h1).1]at e;cases e
  . rfl
 have h2:¬a=0:=by intro h2;subst h2;rw [(zrM h1).1]at e;cases e
 have h3:¬(atE h a=0/\(atH h a).k=0):=by rintro ⟨h3,h4⟩;rw [(zrN h1 h2 h3 h4).1]at e;cases e
 obtain ⟨e1,e2⟩:=ztE h1 h2 h3;have h4:atE h a=0:=by rw [<-e1];exact e
 have h5:ofE h.pw h.np a=0:=by
  by_cases h5:ofE h.pw h.np a=0
  . exact h5
  . rw [(zjV h1 h5).1]at h4;cases h4
 have h6:atB h a=true:=by
  cases h6:atB h a
  . rw [(zr8 h1 h5 h6).1]at h4;cases h4
  . rfl
 obtain ⟨hin,_,t,ht,htl⟩:=zxr h1 h5;obtain ⟨g1,g2,_⟩:=zam h1;have:=(conf_prod g1).2
 have hok:okD (za1 h a)=true:=by
  unfold atB at h6;simp only [qae]at h6;exact h6.1.2
 have hv:=zay (zct hok).2.2;have hH:getH h a=hdOf (za1 h a):=by rw [e2,(zoS h1 h5 h6).2]
 refine ⟨h1,h4,e2,h5,h6,by omega,by omega,?_,?_,?_⟩
 . rw [hH];exact hv.2.2.1
 . rw [hH];exact hv.2.2.2.1
 . rw [e2];intro c;exact h3 ⟨h4,c⟩
theorem zqH{xs l:List Int}{i:Nat}(h:WB xs)(hl:WB l):WB (splice xs i l):=by
 intro x hx;unfold splice at hx;rcases qaq.1 hx with hx | hx
 . exact h x (qcs hx)
 . rcases qaq.1 hx with hx | hx
   . exact hl x hx
   . exact h x (qcr hx)
theorem zhO{xs l:List Int}{a:Int}(h:WB xs)(hl:WB l):WB (zaC xs a l):=by
 unfold zaC;split
 . exact zqH h hl
 . exact WB.nil
def zhs(k n m:Int):List Int:=zd8 k n m::List.replicate n.toNat 0
def zjK(h:Hp)(a k n m:Int):Int:=if zaz k n m=true/\okH h=true then zdo h.words a (zhs k n m) else 1
def zmu(h:Hp)(a k n m:Int):Hp:=if zjK h a k n m=0 then { h with words:=zaC h.words a (zhs k n m) } else Hp.zero
theorem zmv{k n m:Int}:(zhs k n m).length=n.toNat+1:=by unfold zhs;rw [qaF,qbb]
theorem zy7{k n m:Int}(h:zaz k n m=true)(hm:0<=m):WB (zhs k n m):=by
 intro x hx;rcases qap.1 hx with rfl | hx
 . have:=zsH h hm;omega
 . exact WB.zeros _ x hx
def zxY(h:Hp)(a:Int):Int:=if getE h a=0 then zpf h.words (a+1) (getH h a).n else getE h a
def zbB(h:Hp)(a:Int):List Int:=if getE h a=0 then zlX h.words (a+1) (getH h a).n else []
theorem zmU(pw np p o:Int):0<=zbj pw np p o/\zbj pw np p o<18446744073709551616:=by
 cases h:confB pw np
 . unfold zbj;rw [h];simp
 . cases h1:inPg pw np p o
   . rw [(zqh h h1).1];omega
   . rw [(zhz h h1).1];have hc:=conf_prod h;obtain ⟨a1,a2,a3,a4⟩:=qat h1;obtain ⟨c1,c2,_⟩:=zaj h;have e1:p*pw<=(np-1)*pw:=qaV (by omega) (by omega)
     have e2:(np-1)*pw=np*pw-pw:=by rw [Int.sub_mul,qbk]
     have e3:0<=p*pw:=qbj a1 (by omega)
     omega
theorem zjU{h:Hp}{a:Int}(e:atE h a=0):okH h=true/\zaz (atH h a).k (atH h a).n (atH h a).m=true/\0<=(atH h a).m/\(atH h a).m<4294967296/\0<=(atH h a).n/\(atH h a).n<=255:=by
 have h1:okH h=true:=by
  cases h1:okH h
  . unfold atE at e;rw [h1]at e;simp at e
  . rfl
 have h5:ofE h.pw h.np a=0:=by
  by_cases h5:ofE h.pw h.np a=0
  . exact h5
  . rw [(zjV h1 h5).1]at e;cases e
 have h6:atB h a=true:=by
  cases h6:atB h a
  . rw [(zr8 h1 h5 h6).1]at e;cases e
  . rfl
 have hok:okD (za1 h a)=true:=by
  unfold atB at h6;simp only [qae]at h6;exact h6.1.2
 have hv:=(zct hok).2.2;have hp:=zay hv;have hm:=zlH hv;rw [(zoS h1 h5 h6).2];exact ⟨h1,hv,Int.natCast_nonneg _,hm,hp.2.2.1,hp.2.2.2.1⟩
theorem zzG{h:Hp}{a:Int}(e:¬atE h a=0):atH h a=Hd.zero:=by unfold atH;exact if_neg e
def zcG(h:Hp)(i:Int)(big:Bool)(u o:Nat):Option (List Int) :=
 if _hlt:o<u then
  if atE h (zbj h.pw h.np i o)=0 then
   if big then some [zbj h.pw h.np i o]
   else (zcG h i big u (o+((atH h (zbj h.pw h.np i o)).n.toNat+1))).map (zbj h.pw h.np i o :: ·)
  else none
 else some []
 termination_by u-o
theorem zb8{h:Hp}{i:Int}{big:Bool}{u o:Nat}(hlt:¬o<u):zcG h i big u o=some []:=by
 rw [zcG,dif_neg hlt]
theorem zd0{h:Hp}{i:Int}{big:Bool}{u o:Nat}(hlt:o<u)(e:¬atE h (zbj h.pw h.np i o)=0):zcG h i big u o=none:=by
 rw [zcG,dif_pos hlt,if_neg e]
theorem zgA{h:Hp}{i:Int}{u o:Nat}(hlt:o<u)(e:atE h (zbj h.pw h.np i o)=0):zcG h i true u o=some [zbj h.pw h.np i o]:=by
 rw [zcG,dif_pos hlt,if_pos e,if_pos rfl]
theorem zes{h:Hp}{i:Int}{u o:Nat}(hlt:o<u)(e:atE h (zbj h.pw h.np i o)=0):zcG h i false u o=(zcG h i false u (o+((atH h (zbj h.pw h.np i o)).n.toNat+1))).map (zbj h.pw h.np i o :: ·):=by
 rw [zcG,dif_pos hlt,if_pos e,if_neg (by decide)]
def zcM(h:Hp)(i:Int)(big:Bool)(u o:Nat)(acc:List Int):Prop:=zcG h i big u 0=(zcG h i big u o).map (acc ++ ·)
theorem zcM.start(h:Hp)(i:Int)(big:Bool)(u:Nat):zcM h i big u 0 []:=by
 unfold zcM;cases zcG h i big u 0 <;> simp
theorem zcM.fin{h:Hp}{i:Int}{big:Bool}{u o:Nat}{acc:List Int}(hw:zcM h i big u o acc)(hlt:¬o<u):zcG h i big u 0=some acc:=by
 unfold zcM at hw;rw [hw,zb8 hlt];simp
theorem zcM.bad{h:Hp}{i:Int}{big:Bool}{u o:Nat}{acc:List Int}(hw:zcM h i big u o acc)(hlt:o<u)(e:¬atE h (zbj h.pw h.np i o)=0):zcG h i big u 0=none:=by
 unfold zcM at hw;rw [hw,zd0 hlt e];rfl
theorem zcM.big{h:Hp}{i:Int}{u o:Nat}{acc:List Int}(hw:zcM h i true u o acc)(hlt:o<u)(e:atE h (zbj h.pw h.np i o)=0):zcG h i true u 0=some (acc++[zbj h.pw h.np i o]):=by
 unfold zcM at hw;rw [hw,zgA hlt e];rfl
theorem zcM.step{h:Hp}{i:Int}{u o:Nat}{acc:List Int}(hw:zcM h i false u o acc)(hlt:o<u)(e:atE h (zbj h.pw h.np i o)=0):zcM h i false u (o+((atH h (zbj h.pw h.np i o)).n.toNat+1)) (acc++[zbj h.pw h.np i o]):=by
 unfold zcM at hw ⊢;rw [hw,zes hlt e]
 cases zcG h i false u (o+((atH h (zbj h.pw h.np i o)).n.toNat+1)) <;> simp
def pgAt(h:Hp)(i:Int):Pg:=h.pages.getD i.toNat Pg.zero
def zeE(h:Hp)(i:Int):Option (List Int):=zcG h i (decide ((pgAt h i).kind=2)) (pgAt h i).used.toNat 0
def zbp(h:Hp)(i:Int):Int:=if okH h then (if i<0\/h.pages.length<=i then 2 else if (pgAt h i).kind=0\/(pgAt h i).kind=3 then 0 else if (zeE h i).isSome then 0 else 19) else 1
def zaK(h:Hp)(i:Int):List Int:=if okH h then (if i<0\/h.pages.length<=i then [] else if (pgAt h i).kind=0\/(pgAt h i).kind=3 then [] else (zeE h i).getD []) else []
theorem zpl{h:Hp}{i:Int}(h1:okH h=false):zbp h i=1/\zaK h i=[]:=by
 unfold zbp zaK;rw [if_neg (by simp [h1]),if_neg (by simp [h1])];exact ⟨rfl,rfl⟩
theorem zpk{h:Hp}{i:Int}(h1:okH h=true)(h2:i<0\/h.pages.length<=i):zbp h i=2/\zaK h i=[]:=by
 unfold zbp zaK;rw [if_pos h1,if_pos h1,if_pos h2,if_pos h2];exact ⟨rfl,rfl⟩
theorem zfX{h:Hp}{i:Int}(h1:okH h=true)(h2:¬(i<0\/h.pages.length<=i))(h3:(pgAt h i).kind=0\/(pgAt h i).kind=3):zbp h i=0/\zaK h i=[]:=by
 unfold zbp zaK;rw [if_pos h1,if_pos h1,if_neg h2,if_neg h2,if_pos h3,if_pos h3];exact ⟨rfl,rfl⟩
theorem zhZ{h:Hp}{i:Int}(h1:okH h=true)(h2:¬(i<0\/h.pages.length<=i))(h3:¬((pgAt h i).kind=0\/(pgAt h i).kind=3)):zbp h i=(if (zeE h i).isSome then 0 else 19)/\zaK h i=(zeE h i).getD []:=by
 unfold zbp zaK;rw [if_pos h1,if_pos h1,if_neg h2,if_neg h2,if_neg h3,if_neg h3];exact ⟨rfl,rfl⟩
theorem zq0{h:Hp}{i:Int}{l:List Int}(h1:okH h=true)(h2:¬(i<0\/h.pages.length<=i))(h3:¬((pgAt h i).kind=0\/(pgAt h i).kind=3))(h4:zeE h i=some l):zbp h i=0/\zaK h i=l:=by
 obtain ⟨e1,e2⟩:=zhZ h1 h2 h3;rw [e1,e2,h4];exact ⟨rfl,rfl⟩
theorem zq1{h:Hp}{i:Int}(h1:okH h=true)(h2:¬(i<0\/h.pages.length<=i))(h3:¬((pgAt h i).kind=0\/(pgAt h i).kind=3))(h4:zeE h i=none):zbp h i=19/\zaK h i=[]:=by
 obtain ⟨e1,e2⟩:=zhZ h1 h2 h3;rw [e1,e2,h4];exact ⟨rfl,rfl⟩
def zkS(h:Hp)(i o:Int):Int:=zaq h.words (zbj h.pw h.np i o)
theorem zuz(h:Hp)(i:Int)(u:Nat):∀ (f o:Nat) (l:List Int),u-o<=f->zcG h i false u o=some l->l.length<=u-o
 | 0,o,l,hf,hl=>by
  rw [zb8 (by omega)]at hl;cases hl;simp
 | f+1,o,l,hf,hl=>by
  by_cases hlt:o<u
  . by_cases e:atE h (zbj h.pw h.np i o)=0
    . rw [zes hlt e]at hl;cases hr:zcG h i false u (o+((atH h (zbj h.pw h.np i o)).n.toNat+1)) with
      | none=>rw [hr]at hl;cases hl
      | some r=>
       rw [hr]at hl;cases hl
       have:=zuz h i u f _ r (by omega) hr
       rw [qaF];omega
    . rw [zd0 hlt e]at hl;cases hl
  . rw [zb8 hlt]at hl;cases hl;simp
theorem zfY{h:Hp}{i:Int}(h1:okH h=true):(zaK h i).length<=64:=by
 by_cases h2:i<0\/h.pages.length<=i
 . rw [(zpk h1 h2).2];simp
 . by_cases h3:(pgAt h i).kind=0\/(pgAt h i).kind=3
   . rw [(zfX h1 h2 h3).2];simp
   . rw [(zhZ h1 h2 h3).2];cases hw:zeE h i with
     | none=>simp
     | some l=>
      rw [qcd];unfold zeE at hw;by_cases h4:(pgAt h i).kind=2
      . rw [qad h4]at hw;by_cases hlt:0<(pgAt h i).used.toNat
        . by_cases e:atE h (zbj h.pw h.np i ((0:Nat):Int))=0
          . rw [zgA hlt e]at hw;cases hw;simp
          . rw [zd0 hlt e]at hw;cases hw
        . rw [zb8 hlt]at hw;cases hw;simp
      . rw [qaj h4]at hw;have hlen:=zuz h i _ _ _ _ (qan _) hw;obtain ⟨g1,-,-,-,-,-,hL⟩:=zam h1;have hpw:=(zaj g1).2.1;have hil:i.toNat<h.pages.length:=by omega
        have hmem:pgAt h i∈h.pages:=by
         unfold pgAt;rw [zao (qas hil)];exact List.getElem_mem hil
        obtain ⟨-,-,-,-,-,k1,-,-,hk⟩:=zbO _ _ _ _ hL _ hmem;have:=k1 (by omega)
        omega
theorem zxh{h:Hp}{i:Int}(h1:okH h=true)(h2:¬(i<0\/h.pages.length<=i))(h3:¬zbp h i=0):zbp h i=19:=by
 unfold zbp at h3 ⊢
 rw [if_pos h1,if_neg h2]at h3 ⊢
 split at h3
 . exact absurd rfl h3
 . rename_i h4;rw [if_neg h4];split at h3
   . exact absurd rfl h3
   . rename_i h5;rw [if_neg h5]
def zby(h:Hp)(k:Nat):List Int:=(List.range k).flatMap (fun (j:Nat)=>zaK h j)
def zjj(h:Hp):Bool:=(List.range h.pages.length).all (fun (j:Nat)=>decide (zbp h j=0))
def zb1(h:Hp):Int:=if okH h then (if zjj h then 0 else 19) else 1
def zaW(h:Hp):List Int:=if okH h then (if zjj h then zby h h.pages.length else []) else []
theorem zoe{h:Hp}(h1:okH h=false):zb1 h=1/\zaW h=[]:=by
 unfold zb1 zaW;rw [if_neg (by simp [h1]),if_neg (by simp [h1])];exact ⟨rfl,rfl⟩
theorem zqM{h:Hp}{k:Nat}(h1:okH h=true)(hk:k<h.pages.length)(h2:¬zbp h k=0):zb1 h=19/\zaW h=[]:=by
 have hB:zjj h=false:=by
  rw [<-qbu];intro c
  unfold zjj at c;exact h2 (qat (qaN.1 c k (qbG.2 hk)))
 unfold zb1 zaW;rw [if_pos h1,if_pos h1,if_neg (by simp [hB]),if_neg (by simp [hB])];exact ⟨rfl,rfl⟩
theorem zfO{h:Hp}(h1:okH h=true)(h2:∀ k:Nat,k<h.pages.length->zbp h k=0):zb1 h=0/\zaW h=zby h h.pages.length:=by
 have hB:zjj h=true:=by
  unfold zjj;exact qaN.2 fun j hj=>qad (h2 j (qbG.1 hj))
 unfold zb1 zaW;rw [if_pos h1,if_pos h1,if_pos hB,if_pos hB];exact ⟨rfl,rfl⟩
theorem ze5(h:Hp)(k:Nat):zby h (k+1)=zby h k++zaK h k:=by
 unfold zby;rw [List.range_succ,List.flatMap_append];simp
theorem zfQ{h:Hp}(h1:okH h=true):∀ k,(zby h k).length<=64*k
 | 0=>by simp [zby]
 | k+1=>by
  rw [ze5,qaE];have:=zfQ h1 k
  have:=zfY (i:=k) h1
  omega
theorem zwN(h:Hp)(i:Int)(big:Bool)(u:Nat):∀ (f o:Nat) (l:List Int),u-o<=f->zcG h i big u o=some l->WB l
 | 0,o,l,hf,hl=>by
  rw [zb8 (by omega)]at hl;cases hl;exact WB.nil
 | f+1,o,l,hf,hl=>by
  by_cases hlt:o<u
  . by_cases e:atE h (zbj h.pw h.np i o)=0
    . cases big
      . rw [zes hlt e]at hl;cases hr:zcG h i false u (o+((atH h (zbj h.pw h.np i o)).n.toNat+1)) with
        | none=>rw [hr]at hl;cases hl
        | some r=>
         rw [hr]at hl;cases hl
         intro x hx;rcases qap.1 hx with rfl | hx
         . exact zmU _ _ _ _
         . exact zwN h i false u f _ r (by omega) hr x hx
      . rw [zgA hlt e]at hl;cases hl
        intro x hx;rw [qa0.1 hx];exact zmU _ _ _ _
    . rw [zd0 hlt e]at hl;cases hl
  . rw [zb8 hlt]at hl;cases hl;exact WB.nil
theorem zuK(h:Hp)(i:Int):WB (zaK h i):=by
 unfold zaK;split
 . split
   . exact WB.nil
   . split
     . exact WB.nil
     . cases hw:zeE h i with
       | none=>exact WB.nil
       | some l=>exact zwN h i _ _ _ _ l (qan _) hw
 . exact WB.nil
theorem zof(h:Hp):WB (zaW h):=by
 unfold zaW;split
 . split
   . intro x hx;obtain ⟨j,-,hj⟩:=List.mem_flatMap.1 hx;exact zuK h j x hj
   . exact WB.nil
 . exact WB.nil
theorem zcP(h:Hp):(zaW h).length<=4096:=by
 unfold zaW;split
 . rename_i h1;split
   . have:=zfQ h1 h.pages.length
     obtain ⟨g1,_,g3,_⟩:=zam h1;have:=(zaj g1).2.2.2.2
     omega
   . simp
 . simp
def zci(h:Hp)(l:List Int):List Int:=l.filter (fun a=>decide (¬(atH h a).k=0))
def zag(h:Hp):List Int:=zci h (zaW h)
theorem objs_in{h:Hp}{l:List Int}{k:Nat}{x:Int}(hx:l[k]?=some x)(hk:¬(atH h x).k=0):zci h (l.take (k+1))=zci h (l.take k)++[x]:=by
 unfold zci;rw [zbc hx,List.filter_append];simp [hk]
theorem zyV{h:Hp}{l:List Int}{k:Nat}{x:Int}(hx:l[k]?=some x)(hk:(atH h x).k=0):zci h (l.take (k+1))=zci h (l.take k):=by
 unfold zci;rw [zbc hx,List.filter_append];simp [hk]
theorem zyW(h:Hp)(l:List Int)(k:Nat):(zci h (l.take k)).length<=l.length:=by
 unfold zci;exact qaB (qbN _ _) (by rw [qau];omega)
def zmD(P:Int->Bool):List Int->Int
 | []=>0
 | x::r=>if P x then x else zmD P r
theorem zvc{P:Int->Bool}{l:List Int}{k:Nat}{x:Int}(h:l[k]?=some x):zmD P (l.drop k)=if P x then x else zmD P (l.drop (k+1)):=by
 obtain ⟨hk,rfl⟩:=qar.1 h;rw [qaT hk,zmD]
theorem zrT{P:Int->Bool}{l:List Int}{k:Nat}(h:l.length<=k):zmD P (l.drop k)=0:=by
 rw [qbw h];rfl
theorem atH_m(h:Hp)(a:Int):0<=(atH h a).m/\(atH h a).m<4294967296:=by
 by_cases e:atE h a=0
 . have:=zjU e;exact ⟨this.2.2.1,this.2.2.2.1⟩
 . rw [zzG e];decide
def clsB(h:Hp)(i:Nat)(x:Int):Bool :=
 (decide ((pgAt h i).kind=1) && !decide (zaP (atH h x).k (atH h x).n (atH h x).m<=zev h.pw h.np)) || (decide ((pgAt h i).kind=2)&&decide ((atH h x).k=0))
def clsV(h:Hp)(i:Nat)(l:List Int):Int:=zmD (clsB h i) l
def zbJ(ps:List Pg):Nat->Nat
 | 0=>0
 | j+1=>if (ps.getD (j+1) Pg.zero).kind=3 then zbJ ps j else j+1
theorem zrK(ps:List Pg):∀ i,zbJ ps i<=i
 | 0=>qan _
 | j+1=>by unfold zbJ;split;exact Nat.le_succ_of_le (zrK ps j);exact qan _
theorem zxR{h:Hp}(h1:okH h=true):¬(h.pages.getD 0 Pg.zero).kind=3:=by
 obtain ⟨-,-,-,-,-,-,hL⟩:=zam h1;cases hp:h.pages with
 | nil=>simp [Pg.zero]
 | cons x r=>
  rw [hp,zaI]at hL;intro hk;have hk':x.kind=3:=hk
  unfold zcm at hL;rw [if_pos (Or.inl (by rw [hk'];simp))]at hL
  cases hL
def zd9(h:Hp)(x:Int):Int:=if (atH h x).k=0 then 1 else zaP (atH h x).k (atH h x).n (atH h x).m
def zo3(h:Hp)(i:Nat)(l:List Int)(t:Nat):Bool:=l.any fun x=>decide (x-4096-(i:Int)*h.pw<=t/\(t:Int)<x-4096-(i:Int)*h.pw+zd9 h x)
def zhb(h:Hp)(i:Nat)(l:List Int):List Bool:=(List.range h.pw.toNat).map (zo3 h i l)
def zjg(h:Hp)(i:Nat)(l:List Int)(x:Int)(z:Nat):List Bool:=(List.range h.pw.toNat).map fun t=>zo3 h i l t || decide (x-4096-(i:Int)*h.pw<=t/\(t:Int)<x-4096-(i:Int)*h.pw+z)
theorem zqK(h:Hp)(i:Nat)(l:List Int)(x:Int)(z:Nat):(zjg h i l x z).length=h.pw.toNat:=by unfold zjg;rw [qai,qcx]
theorem zvu(h:Hp)(i:Nat)(l:List Int)(x:Int):zjg h i l x 0=zhb h i l:=by
 unfold zjg zhb;congr 1;funext t
 rw [show decide (x-4096-(i:Int)*h.pw<=t/\(t:Int)<x-4096-(i:Int)*h.pw+((0:Nat):Int))=false from qaj (by omega),Bool.or_false]
theorem zyp{h:Hp}{i:Nat}{l:List Int}{x:Int}{z T:Nat}(hT:x-4096-(i:Int)*h.pw+z=T)(hp:T<h.pw.toNat):(zjg h i l x z).set T true=zjg h i l x (z+1):=by
 apply qbt
 intro j;rw [qaZ,zqK];unfold zjg;rw [qbd,qbd];by_cases hj:j<h.pw.toNat
 . rw [List.getElem?_range hj];by_cases hjT:T=j
   . subst hjT;rw [if_pos rfl,if_pos hp];simp only [qbF];rw [qad (by omega),Bool.or_true]
   . rw [if_neg hjT];simp only [qbF];congr 2
     exact qcf.2 (by omega)
 . rw [qb1 (by rw [qcx];omega),if_neg (by omega)]
   rfl
theorem zwR{h:Hp}{i:Nat}{l:List Int}{x:Int}{z:Nat}(hT:x-4096-(i:Int)*h.pw+z<0\/h.pw<=x-4096-(i:Int)*h.pw+z):zjg h i l x (z+1)=zjg h i l x z:=by
 unfold zjg;apply List.map_congr_left
 intro t ht;have:=qbG.1 ht
 congr 1
 exact qcf.2 (by omega)
theorem zwS{h:Hp}{i:Nat}{l:List Int}{x:Int}{z:Nat}(hz:zd9 h x=z):zjg h i l x z=zhb h i (l++[x]):=by
 unfold zjg zhb;congr 1;funext t
 unfold zo3;rw [List.any_append,List.any_cons,List.any_nil,Bool.or_false,hz]
theorem zyo(h:Hp)(x:Int):1<=zd9 h x/\zd9 h x<=256:=by
 unfold zd9;split
 . omega
 . by_cases e:atE h x=0
   . have:=zjU e
     rw [zcq this.2.1];omega
   . rw [zzG e];decide
theorem zwQ(h:Hp)(i:Nat):zhb h i []=List.replicate h.pw.toNat false:=by
 unfold zhb zo3;rw [List.eq_replicate_iff];refine ⟨by rw [qai,qcx],fun b hb=>?_⟩
 obtain ⟨t,-,rfl⟩:=qav.1 hb
 rfl
theorem zsI(h:Hp)(i:Int)(big:Bool)(u:Nat):∀ (f o:Nat) (l:List Int),u-o<=f->zcG h i big u o=some l->∀ x∈l,atE h x=0/\∃ o':Nat,o<=o'/\o'<u/\x=zbj h.pw h.np i o'
 | 0,o,l,hf,hl,x,hx=>by
  rw [zb8 (by omega)]at hl;cases hl;cases hx
 | f+1,o,l,hf,hl,x,hx=>by
  by_cases hlt:o<u
  . by_cases e:atE h (zbj h.pw h.np i o)=0
    . cases big
      . rw [zes hlt e]at hl;cases hr:zcG h i false u (o+((atH h (zbj h.pw h.np i o)).n.toNat+1)) with
        | none=>rw [hr]at hl;cases hl
        | some r=>
         rw [hr]at hl;cases hl
         rcases qap.1 hx with rfl | hx
         . exact ⟨e,o,qan _,hlt,rfl⟩
         . obtain ⟨a,o',b1,b2,b3⟩:=zsI h i false u f _ r (by omega) hr x hx
           exact ⟨a,o',by omega,b2,b3⟩
      . rw [zgA hlt e]at hl;cases hl
        rw [qa0.1 hx];exact ⟨e,o,qan _,hlt,rfl⟩
    . rw [zd0 hlt e]at hl;cases hl
  . rw [zb8 hlt]at hl;cases hl;cases hx
theorem ze9{h:Hp}{i:Int}{x:Int}(hx:x∈zaK h i):atE h x=0:=by
 unfold zaK at hx;split at hx
 . split at hx
   . cases hx
   . split at hx
     . cases hx
     . cases hw:zeE h i with
       | none=>rw [hw]at hx;cases hx
       | some l=>
        rw [hw]at hx;exact (zsI h i _ _ _ _ l (qan _) hw x hx).1
 . cases hx
theorem ztT{h:Hp}{x:Int}(e:atE h x=0):4096<=x/\x<8192:=by
 have h1:=(zjU e).1;have h5:ofE h.pw h.np x=0:=by
  by_cases h5:ofE h.pw h.np x=0
  . exact h5
  . rw [(zjV h1 h5).1]at e;cases e
 obtain ⟨-,-,t,ht,htl⟩:=zxr h1 h5;obtain ⟨k1,k2,-⟩:=zam h1;have:=(conf_prod k1).2
 omega
theorem zeu{h:Hp}{x:Int}(hx:x∈zaW h):atE h x=0:=by
 unfold zaW at hx;split at hx
 . split at hx
   . unfold zby at hx;obtain ⟨j,-,hj⟩:=List.mem_flatMap.1 hx;exact ze9 hj
   . cases hx
 . cases hx
theorem zce{h:Hp}{x:Int}(hx:x∈zag h):atE h x=0/\¬(atH h x).k=0:=by
 unfold zag zci at hx;obtain ⟨h1,h2⟩:=qbM.1 hx;exact ⟨zeu h1,qat h2⟩
def zdf(h:Hp)(i:Nat):Nat->List Bool->Int
 | _,[]=>0
 | k,b::r=>if b=false/\¬zkS h i k=0 then 4096+(i:Int)*h.pw+k else zdf h i (k+1) r
def zhw(h:Hp)(i:Nat):Int:=zdf h i 0 (zhb h i (zaK h (zbJ h.pages i)))
theorem dirt_at{h:Hp}{i:Nat}{l:List Bool}{k:Nat}{b:Bool}(hb:l[k]?=some b):zdf h i k (l.drop k)=if b=false/\¬zkS h i k=0 then 4096+(i:Int)*h.pw+k else zdf h i (k+1) (l.drop (k+1)):=by
 obtain ⟨hk,rfl⟩:=qar.1 hb;rw [qaT hk,zdf]
theorem zzc{h:Hp}{i:Nat}{l:List Bool}{k:Nat}(hk:l.length<=k):zdf h i k (l.drop k)=0:=by
 rw [qbw hk];rfl
theorem zlI(h:Hp)(i:Nat)(l:List Int):(zhb h i l).length=h.pw.toNat:=by unfold zhb;rw [qai,qcx]
structure Fd where
 fault:Int
 page:Int
 addr:Int
 deriving DecidableEq
def Fd.none:Fd:=⟨0,0,0⟩
def zed(h:Hp)(i:Nat):Fd :=
 if ¬(pgAt h i).kind=0/\¬(pgAt h i).space=h.space then ⟨2,i,0⟩
 else if ¬zbp h i=0 then ⟨3,i,0⟩
 else if ¬clsV h i (zaK h i)=0 then ⟨5,i,clsV h i (zaK h i)⟩
 else if ¬zhw h i=0 then ⟨4,i,zhw h i⟩ else Fd.none
theorem getH_m(h:Hp)(a:Int):0<=(getH h a).m/\(getH h a).m<4294967296:=by
 by_cases e:getE h a=0
 . rw [(ztD e).2.2.1];exact atH_m h a
 . rw [ziv e];decide
theorem ztJ(h:Hp)(a:Int):(zbB h a).length<=h.words.length:=by
 unfold zbB;split
 . exact zw6 _ _ _
 . simp
def za0(all:List Int)(x:Hd):Nat->List Int->Option Nat
 | _,[]=>none
 | k,f::r=>if ptrB x.k x.n x.m k=true/\¬f=0/\¬f∈all then some k else za0 all x (k+1) r
theorem bad_at{all:List Int}{x:Hd}{l:List Int}{k:Nat}{f:Int}(hf:l[k]?=some f):za0 all x k (l.drop k)=if ptrB x.k x.n x.m k=true/\¬f=0/\¬f∈all then some k else za0 all x (k+1) (l.drop (k+1)):=by
 obtain ⟨hk,rfl⟩:=qar.1 hf;rw [qaT hk,za0]
theorem bad_end{all:List Int}{x:Hd}{l:List Int}{k:Nat}(hk:l.length<=k):za0 all x k (l.drop k)=none:=by
 rw [qbw hk];rfl
def zsV(h:Hp)(a:Int):Fd:=⟨6,ofI h.pw h.np a,a⟩
def zbZ(h:Hp)(all:List Int):List Int->Fd
 | []=>Fd.none
 | x::r=>match za0 all (getH h x) 0 (zbB h x) with | some k=>zsV h (x+1+k) | none=>zbZ h all r
def zbu(h:Hp):Fd:=zbZ h (zag h) (zag h)
theorem zw9{h:Hp}{all l:List Int}{k:Nat}{x:Int}(hx:l[k]?=some x):zbZ h all (l.drop k)=match za0 all (getH h x) 0 (zbB h x) with | some k=>zsV h (x+1+k) | none=>zbZ h all (l.drop (k+1)):=by
 obtain ⟨hk,rfl⟩:=qar.1 hx;rw [qaT hk,zbZ]
theorem zuH{h:Hp}{all l:List Int}{k:Nat}(hk:l.length<=k):zbZ h all (l.drop k)=Fd.none:=by
 rw [qbw hk];rfl
def zaD(h:Hp):Nat->Nat->Fd
 | _,0=>Fd.none
 | i,n+1=>if ¬(zed h i).fault=0 then zed h i else zaD h (i+1) n
def zaZ:List Pg->Nat
 | []=>0
 | x::r=>(if x.kind=1/\0<x.pins then 1 else 0)+zaZ r
theorem ziB:∀ a b:List Pg,zaZ (a++b)=zaZ a+zaZ b
 | [],b=>by simp [zaZ]
 | x::r,b=>by rw [qaK,zaZ,zaZ,ziB r b];omega
theorem zhy{ps:List Pg}{k:Nat}{x:Pg}(h:ps[k]?=some x):zaZ (ps.take (k+1))=zaZ (ps.take k)+if x.kind=1/\0<x.pins then 1 else 0:=by
 rw [zbc h,ziB];simp [zaZ]
theorem zr0:∀ ps:List Pg,zaZ ps<=ps.length
 | []=>qan _
 | x::r=>by have:=zr0 r;unfold zaZ;rw [qaF];split <;> omega
def zeT(h:Hp):Fd :=
 if okH h then
  (if ¬(zaD h 0 h.pages.length).fault=0 then zaD h 0 h.pages.length
   else if ¬(zbu h).fault=0 then zbu h
   else if h.np / 4<zaZ h.pages then ⟨7,0,0⟩ else Fd.none)
 else ⟨1,0,0⟩
def zgT(h:Hp):Bool:=decide ((zeT h).fault=0)
theorem zoQ{h:Hp}(e:(zeT h).fault=0):zeT h=Fd.none:=by
 unfold zeT at e ⊢
 split at e
 . rename_i h1;rw [if_pos h1];split at e
   . contradiction
   . rename_i h2;rw [if_neg h2];split at e
     . contradiction
     . rename_i h3;rw [if_neg h3];split at e
       . cases e
       . rename_i h4;rw [if_neg h4]
 . cases e
def zjn(h:Hp)(l:List Int):Bool:=zgT h&&l.all fun x=>decide (x=0\/x∈zag h)
theorem all_at{P:Int->Bool}{l:List Int}{k:Nat}{x:Int}(hx:l[k]?=some x):(l.drop k).all P=(P x&&(l.drop (k+1)).all P):=by
 obtain ⟨hk,rfl⟩:=qar.1 hx;rw [qaT hk,qb2]
def zk7(pw np k n m:Int):Bool:=zaz k n m&&decide (¬k=0)&&decide (¬zat pw np (zaP k n m) = -1)
theorem zqP(ps:List Pg):∀ (k:Nat) (r:Int×Int),r∈zbe ps k->∀ t:Nat,r.1<=t->(t:Int)<r.1+r.2->∃ x,ps[t]?=some x/\x.kind=0
 | 0,r,h=>by simp [zbe]at h
 | k+1,r,h=>by
  have ih:=zqP ps k;cases hx:ps[k]? with
  | none=>rw [zbe,hx]at h;exact ih r h
  | some x=>
   rw [zcS hx]at h;by_cases h0:x.kind=0
   . rcases zgC (zbe ps k) with e | ⟨pre,q,e⟩
     . rw [e,zdG h0]at h;simp at h;subst h
       intro t h1 h2;obtain rfl:t=k:=by simp only at h1 h2;omega
       exact ⟨x,hx,h0⟩
     . by_cases he:q.1+q.2=k
       . rw [e,zdb h0 he]at h;rcases qaq.1 h with h | h
         . exact ih r (by rw [e];exact qaJ _ h)
         . simp at h;subst h
           intro t h1 h2;by_cases ht:t=k
           . subst ht;exact ⟨x,hx,h0⟩
           . exact ih q (by rw [e];simp) t h1 (by simp only at h2;omega)
       . rw [e,zdH h0 he]at h;rcases qaq.1 h with h | h
         . exact ih r (by rw [e];exact h)
         . simp at h;subst h
           intro t h1 h2;obtain rfl:t=k:=by simp only at h1 h2;omega
           exact ⟨x,hx,h0⟩
   . rw [zey h0]at h;exact ih r h
theorem zfc{k:Int}:∀ l:List (Int×Int),zaY k l = -1\/∃ r∈l,zaY k l=r.1/\1<=k/\k<=r.2
 | []=>Or.inl rfl
 | r::t=>by
  unfold zaY;split
  . rename_i h;exact Or.inr ⟨r,by simp,rfl,h⟩
  . rcases zfc t with h | ⟨q,hq,h⟩
    . exact Or.inl h
    . exact Or.inr ⟨q,by simp [hq],h⟩
theorem zdB{ps:List Pg}{k:Int}(h:0<=zau ps k):1<=k/\zau ps k+k<=ps.length/\∀ t:Nat,zau ps k<=t->(t:Int)<zau ps k+k->∃ x,ps[t]?=some x/\x.kind=0:=by
 rw [zht]at h ⊢
 rcases zfc (k:=k) (zlT ps) with e | ⟨r,hr,e,h1,h2⟩
 . omega
 . rw [e];have hb:=zpa ps ps.length r hr;exact ⟨h1,by omega,fun t a b=>zqP ps ps.length r hr t a (by omega)⟩
def zkC(h:Hp):Pg:=h.pages.getD h.bump.toNat Pg.zero
def newB(h:Hp)(n:Int):Bool:=decide (h.bump<0\/¬(zkC h).space=h.space\/h.pw<(zkC h).used+n\/zg4 h.pw h.np<zbd h.pages)
def zdE(h:Hp):Bool:=decide (zau h.pages 1<0\/zg4 h.pw h.np<=zbd h.pages)
def zb9(h:Hp)(n:Int):Bool:=!(newB h n&&zdE h)
def zfS(h:Hp)(n:Int):Int:=if newB h n then zau h.pages 1 else h.bump
def zbN(h:Hp)(n:Int):List Pg:=if newB h n then zb2 h.pages (zau h.pages 1) h.space else h.pages
def zgK(ps:List Pg)(j:Nat)(n:Int):List Pg:=ps.set j ⟨(ps.getD j Pg.zero).kind,(ps.getD j Pg.zero).space,(ps.getD j Pg.zero).used+n,(ps.getD j Pg.zero).pins⟩
def zlQ(h:Hp)(n:Int):Hp:={ h with pages:=zgK (zbN h n) (zfS h n).toNat n,bump:=zfS h n }
def zlR(h:Hp)(n:Int):Int:=4096+zfS h n*h.pw+((zbN h n).getD (zfS h n).toNat Pg.zero).used
def zis(h:Hp)(k:Int):Bool:=decide (¬(zau h.pages k<0\/zg4 h.pw h.np<zbd h.pages+k))
def zoD(h:Hp)(n k:Int):Hp:={ h with pages:=zgd h.pw h.np h.pages (zau h.pages k) h.space n }
def zoE(h:Hp)(k:Int):Int:=4096+zau h.pages k*h.pw
theorem zxL{pw np:Int}{ps:List Pg}{i sp n:Int}(h:1<=zat pw np n/\0<=sp/\sp<=1):zgd pw np ps i sp n=zhc ps i (zat pw np n) ⟨2,sp,n,0⟩ ⟨3,sp,0,0⟩/\zms pw np ps i sp n=zkR ps i (zat pw np n):=by
 unfold zgd zms;rw [if_pos h,if_pos h];exact ⟨rfl,rfl⟩
theorem small_spec{h:Hp}{n:Int}(h1:okH h=true)(hok:zb9 h n=true):
 ∃ j:Nat,∃ x:Pg,zfS h n=j/\j<h.pages.length/\(zbN h n).length=h.pages.length/\(zbN h n)[j]?=some x/\x.kind=1/\0<=x.used/\x.used<=h.pw/\x.space=h.space /\
  ((newB h n=true/\zbN h n=h.pages.set j ⟨1,h.space,0,0⟩/\x=⟨1,h.space,0,0⟩/\zjl h.pages (zau h.pages 1) h.space=0/\∃ y,h.pages[j]?=some y/\y.kind=0)\/(newB h n=false/\zbN h n=h.pages/\x.used+n<=h.pw)):=by
 obtain ⟨g1,g2,g3,g4,g5,g6,g7⟩:=zam h1;obtain ⟨k1,k2,-,k4,k5⟩:=zaj g1;unfold zb9 at hok;cases hn:newB h n
 . have hd:=qa3 hn;have hb0:0<=h.bump:=by omega
   have hbb:=qat g6;have hbs:h.bump<h.pages.length/\(h.pages.getD h.bump.toNat Pg.zero).kind=1:=by
    rcases hbb with h | h
    . omega
    . exact ⟨h.2.1,h.2.2⟩
   have hx:h.pages[h.bump.toNat]?=some (h.pages[h.bump.toNat]'(by omega)):=qas _
   have hgd:=zao hx;have hmem:=zbO _ _ _ _ g7 _ (qba hx);rw [hgd]at hbs;have hbp:zkC h=h.pages[h.bump.toNat]'(by omega):=hgd
   rw [hbp]at hd;refine ⟨h.bump.toNat,h.pages[h.bump.toNat]'(by omega),by unfold zfS;rw [hn];simp;omega,by omega,by unfold zbN;rw [hn];rfl,by unfold zbN;rw [hn];exact hx,hbs.2,(hmem.2.2.2.2.2.1 hbs.2).1,(hmem.2.2.2.2.2.1 hbs.2).2,?_,Or.inr ⟨rfl,by unfold zbN;rw [hn];rfl,by omega⟩⟩
   have:¬¬(h.pages[h.bump.toNat]'(by omega)).space=h.space:=fun c=>hd (Or.inr (Or.inl c))
   exact Classical.not_not.1 this
 . rw [hn,qaU]at hok;have hf:zdE h=false:=by simpa using hok
   have hd:=qa3 hf;have hF:0<=zau h.pages 1:=by omega
   obtain ⟨-,f1,f2⟩:=zdB hF;obtain ⟨y,hy,hy0⟩:=f2 (zau h.pages 1).toNat (by omega) (by omega)
   have hlt:(zau h.pages 1).toNat<h.pages.length:=(qar.1 hy).1;have hfree:zcw h.pages (zau h.pages 1).toNat 1=true:=by
    have:=zck (ps:=h.pages) (i:=(zau h.pages 1).toNat) (k:=0) (x:=y) (by rw [qa7];exact hy)
    rw [zcV,hy0]at this;simpa using this
   obtain ⟨t1,t2⟩:=zlL (x:=⟨1,h.space,0,0⟩) (y:=Pg.zero) hlt (show (zau h.pages 1).toNat+1<=h.pages.length by omega) hfree
   have eF:(((zau h.pages 1).toNat:Nat):Int)=zau h.pages 1:=by omega
   rw [eF]at t1 t2;have hps:zbN h n=h.pages.set (zau h.pages 1).toNat ⟨1,h.space,0,0⟩:=by
    unfold zbN zb2;rw [hn,if_pos rfl,if_pos ⟨g4,g5⟩];rw [show ((1:Nat):Int)=1 from rfl]at t1
    rw [t1];apply qbt
    intro i;have hl:(put h.pages (zau h.pages 1).toNat 1 Pg.zero).length=h.pages.length:=ze6 (by omega)
    rw [qaZ,qaZ,hl];split
    . rfl
    . rw [zdJ (by omega) (by omega)]
   have hpe:zjl h.pages (zau h.pages 1) h.space=0:=by
    unfold zjl;rw [if_pos ⟨g4,g5⟩];exact t2
   refine ⟨(zau h.pages 1).toNat,⟨1,h.space,0,0⟩,by unfold zfS;rw [hn];exact eF.symm,hlt,by rw [hps,List.length_set],by rw [hps,qaZ];simp [hlt],rfl,by simp,by simp only;omega,rfl,Or.inl ⟨rfl,hps,rfl,hpe,y,hy,hy0⟩⟩
theorem zf9(pw np n:Int):zat pw np n<=4:=by
 unfold zat zeO;repeat' split
 all_goals omega
theorem zpM(pw np n:Int): -1<=zat pw np n:=by
 unfold zat zeO;repeat' split
 all_goals omega
def zks(h:Hp)(k n m:Int):Bool:=okH h&&zk7 h.pw h.np k n m
def zuT(h:Hp)(k n m:Int):Bool:=decide (0<zat h.pw h.np (zaP k n m))
def zpJ(h:Hp)(k n m:Int):Bool:=if zuT h k n m then zis h (zat h.pw h.np (zaP k n m)) else zb9 h (zaP k n m)
def zmp(h:Hp)(k n m:Int):Hp:=if zuT h k n m then zoD h (zaP k n m) (zat h.pw h.np (zaP k n m)) else zlQ h (zaP k n m)
def zpK(h:Hp)(k n m:Int):Int:=if zuT h k n m then zoE h (zat h.pw h.np (zaP k n m)) else zlR h (zaP k n m)
def zcL(h:Hp)(k n m:Int):Int:=if zks h k n m then (if zpJ h k n m then 0 else 3) else 1
def zdq(h:Hp)(k n m:Int):Hp:=if zcL h k n m=0 then zmu (zmp h k n m) (zpK h k n m) k n m else Hp.zero
def ziG(h:Hp)(k n m:Int):Int:=if zcL h k n m=0 then zpK h k n m else 0
structure Wk where
 h:Hp
 old:List Int
 taken:List Int
 queue:List Int
 sc:Int
 r0:Int
 r1:Int
 r2:Int
 r3:Int
 r4:Int
 r5:Int
def Wk.zero:Wk:=⟨Hp.zero,[],[],[],0,0,0,0,0,0,0⟩
def zeC(x:Wk)(i:Int):Bool:=match x.h.pages[i.toNat]? with
 | some g=>decide (0<=i)&&(decide (g.kind=1) && !decide (g.space=x.h.space) && !decide (i∈x.taken))
 | none=>false
def zei(x:Wk)(a:Int):Wk:={ x with queue:=x.queue++[a],r1:=wrap64 (x.r1+1) }
theorem zhV{ps:List Pg}{sp:Int}(h0:0<=sp)(h1:sp<=1)(hF:0<=zau ps 1):
 (zau ps 1).toNat<ps.length/\zb2 ps (zau ps 1) sp=ps.set (zau ps 1).toNat ⟨1,sp,0,0⟩/\∃ y,ps[(zau ps 1).toNat]?=some y/\y.kind=0:=by
 obtain ⟨-,f1,f2⟩:=zdB hF;obtain ⟨y,hy,hy0⟩:=f2 (zau ps 1).toNat (by omega) (by omega)
 have hlt:(zau ps 1).toNat<ps.length:=(qar.1 hy).1;have hfree:zcw ps (zau ps 1).toNat 1=true:=by
  have:=zck (ps:=ps) (i:=(zau ps 1).toNat) (k:=0) (x:=y) (by rw [qa7];exact hy)
  rw [zcV,hy0]at this;simpa using this
 obtain ⟨t1,t2⟩:=zlL (x:=⟨1,sp,0,0⟩) (y:=Pg.zero) hlt (show (zau ps 1).toNat+1<=ps.length by omega) hfree
 have eF:(((zau ps 1).toNat:Nat):Int)=zau ps 1:=by omega
 rw [eF]at t1 t2;refine ⟨hlt,?_,y,hy,hy0⟩;unfold zb2;rw [if_pos ⟨h0,h1⟩];rw [show ((1:Nat):Int)=1 from rfl]at t1
 rw [t1];apply qbt
 intro i;have hl:(put ps (zau ps 1).toNat 1 Pg.zero).length=ps.length:=ze6 (by omega)
 rw [qaZ,qaZ,hl];split
 . rfl
 . rw [zdJ (by omega) (by omega)]
def zcI(x:Wk)(n:Int):Bool:=match x.taken.getLast? with | some l=>decide ((x.h.pages.getD l.toNat Pg.zero).used+n<=x.h.pw) | none=>false
def plJ(x:Wk)(n:Int):Int:=if zcI x n then x.taken.getLast?.getD (-1) else zau x.h.pages 1
def plB(x:Wk)(n:Int):Bool:=zcI x n || decide (0<=zau x.h.pages 1)
def plPs(x:Wk)(n:Int):List Pg:=if zcI x n then x.h.pages else zb2 x.h.pages (zau x.h.pages 1) (1-x.h.space)
def plT(x:Wk)(n:Int):List Int:=if zcI x n then x.taken else x.taken++[zau x.h.pages 1]
def plW(x:Wk)(n:Int):Wk:={ x with h:={ x.h with pages:=zgK (plPs x n) (plJ x n).toNat n },taken:=plT x n }
def plA(x:Wk)(n:Int):Int:=4096+plJ x n*x.h.pw+((plPs x n).getD (plJ x n).toNat Pg.zero).used
structure PlOK (x:Wk):Prop where
 pw0:16<=x.h.pw
 pw1:x.h.pw<=64
 np0:1<=x.h.pages.length
 np1:x.h.pages.length<=64
 sp0:0<=x.h.space
 sp1:x.h.space<=1
 tk:x.taken.length<=1000
 last:∀ l,x.taken.getLast?=some l->∃ k:Nat,l=k/\∃ g,x.h.pages[k]?=some g/\0<=g.used/\g.used<=x.h.pw
theorem zeD{x:Wk}{n:Int}(hx:PlOK x)(hb:plB x n=true):
 ∃ j:Nat,∃ y:Pg,plJ x n=j/\j<x.h.pages.length/\(plPs x n).length=x.h.pages.length/\(plPs x n)[j]?=some y/\0<=y.used/\y.used<=x.h.pw /\
  ((zcI x n=true/\plPs x n=x.h.pages/\x.taken.getLast?=some (j:Int)/\y.used+n<=x.h.pw)\/(zcI x n=false/\zau x.h.pages 1=j/\plPs x n=x.h.pages.set j ⟨1,1-x.h.space,0,0⟩/\y=⟨1,1-x.h.space,0,0⟩/\∃ z,x.h.pages[j]?=some z/\z.kind=0)):=by
 cases hr:zcI x n
 . unfold plB at hb;rw [hr,Bool.false_or]at hb;have hF:=qat hb;have s0:=hx.sp0;have s1:=hx.sp1;have p0:=hx.pw0;obtain ⟨f1,f2,z,f3,f4⟩:=zhV (ps:=x.h.pages) (sp:=1-x.h.space) (by omega) (by omega) hF
   have e1:plPs x n=x.h.pages.set (zau x.h.pages 1).toNat ⟨1,1-x.h.space,0,0⟩:=by unfold plPs;rw [hr];exact f2
   refine ⟨(zau x.h.pages 1).toNat,⟨1,1-x.h.space,0,0⟩,by unfold plJ;rw [hr];simp;omega,f1,by rw [e1,List.length_set],by rw [e1,qaZ,if_pos rfl,if_pos f1],by simp,by simp only;omega,Or.inr ⟨rfl,by omega,e1,rfl,z,f3,f4⟩⟩
 . have h1:=hr;unfold zcI at h1;cases hl:x.taken.getLast? with
   | none=>rw [hl]at h1;cases h1
   | some l=>
    rw [hl]at h1;obtain ⟨k,rfl,g,g1,g2,g3⟩:=hx.last l hl;have hk:=(qar.1 g1).1;have h2:=qat h1;rw [qac,zao g1]at h2;have e1:plPs x n=x.h.pages:=by unfold plPs;rw [hr];rfl
    exact ⟨k,g,by unfold plJ;rw [hr,hl];rfl,hk,by rw [e1],by rw [e1];exact g1,g2,g3,Or.inl ⟨rfl,e1,rfl,h2⟩⟩
def evWd(x:Wk)(a:Int):Int:=zaq x.h.words a
def evI(x:Wk)(a:Int):Int:=ofI x.h.pw x.h.np a
def evN(x:Wk)(a:Int):Int:=zaP (decK (evWd x a).toNat) (decN (evWd x a).toNat) (decM (evWd x a).toNat)
def zgf(x:Wk)(a:Int):Bool:=decide ((x.h.pages.getD (evI x a).toNat Pg.zero).kind=2)
def spc(ps:List Pg)(i k:Nat)(sp:Int):List Pg:=ps.mapIdx fun j y=>if i<=j/\j<k then ⟨y.kind,sp,y.used,y.pins⟩ else y
def zea(ps:List Pg)(i:Nat):Nat:=i+1+((ps.drop (i+1)).takeWhile fun y=>decide (y.kind=3)).length
def zcK(x:Wk)(i:Nat):Wk:={ x with h:={ x.h with pages:=spc x.h.pages i (zea x.h.pages i) (1-x.h.space) } }
def zkB(x:Wk)(a:Int):List Int:=zaC (zdw x.h.words (plA x (evN x a)) a (evN x a)) a [fwdV (plA x (evN x a))]
def zbq(x:Wk)(a:Int):Wk:={ plW x (evN x a) with h:={ (plW x (evN x a)).h with words:=zkB x a },queue:=x.queue++[plA x (evN x a)],r0:=wrap64 (x.r0+1) }
def evC(x:Wk)(a:Int):Nat :=
 if a=0\/a∈x.queue then 0 else if ¬a∈x.old then 1 else if okT (evWd x a).toNat then 2
 else if ¬ofE x.h.pw x.h.np a=0\/(x.h.pages.length:Int)<=evI x a then 3
 else if zeC x (evI x a) then 4 else if zgf x a then 5 else if plB x (evN x a) then 7 else 6
def evE(x:Wk)(a:Int):Int:=match evC x a with | 1=>19 | 3=>19 | 6=>3 | _=>0
def evA(x:Wk)(a:Int):Int:=match evC x a with | 0=>a | 2=>tgtV (evWd x a).toNat | 4=>a | 5=>a | 7=>plA x (evN x a) | _=>0
def evW(x:Wk)(a:Int):Wk:=match evC x a with | 0=>x | 2=>x | 4=>zei x a | 5=>zei (zcK x (evI x a).toNat) a | 7=>zbq x a | _=>Wk.zero
theorem zeQ{xs:List Int}(h:WB xs)(a:Int):∃ k:Nat,zaq xs a=k/\k<18446744073709551616:=by
 have hx:0<=zaq xs a/\zaq xs a<18446744073709551616:=by
  unfold zaq;split
  . rw [qay];cases hg:xs[(a-4096).toNat]? with
    | none=>simp
    | some v=>simpa using h v (qba hg)
  . simp
 exact ⟨(zaq xs a).toNat,by omega,by omega⟩
theorem zx1(x:Nat):0<=decM x/\decM x<4294967296:=by
 unfold decM;split
 . unfold dM;have:x / 65536 % 4294967296<4294967296:=Nat.mod_lt _ (by omega);omega
 . omega
theorem evN_bd(x:Wk)(a:Int):0<=evN x a/\evN x a<=1000:=by
 unfold evN zaP;split
 . rename_i h;unfold zaz at h;have:=qat h
   omega
 . omega
theorem zxc{x:Wk}{n:Int}(hx:PlOK x)(hb:plB x n=true):0<=plA x n/\plA x n<18446744073709551616:=by
 obtain ⟨j,y,s1,s2,s3,s4,s5,s6,-⟩:=zeD hx hb;have k1:=hx.pw0;have k2:=hx.pw1;have k3:=hx.np1;have hJ0:0<=(j:Int)*x.h.pw:=qbj (by omega) (by omega)
 have hJ1:(j:Int)*x.h.pw<=64*64:=qb4 (by omega) k2 (by omega) (by omega)
 unfold plA;rw [s1,qac,zao s4];omega
theorem zuV(xs:List Int)(t f n:Int):(zdw xs t f n).length<=xs.length:=by
 unfold zdw;split
 . simp
 . split
   . rename_i h0 h;have h1:=qat h.1;rw [zcQ (by rw [qau,qaI];omega)]
     exact qan _
   . simp
theorem wb_move{xs:List Int}(h:WB xs)(t f n:Int):WB (zdw xs t f n):=by
 unfold zdw;split
 . exact WB.nil
 . split
   . exact zqH h (fun v hv=>h v (qcr (qcs hv)))
   . exact WB.nil
theorem copyWB{x:Wk}{a:Int}(hx:PlOK x)(hb:plB x (evN x a)=true)(h:WB x.h.words):WB (zbq x a).h.words:=by
 show WB (zaC (zdw x.h.words _ a _) a [fwdV _])
 refine zhO (wb_move h _ _ _) (fun v hv=>?_)
 simp only [qa0]at hv;subst hv;have:=zxc hx hb
 unfold fwdV;split <;> omega
theorem zhS{α:Type}{p:α->Bool}:∀ (L:List α) (n:Nat),n<=L.length->(∀ j y,j<n->L[j]?=some y->p y=true)->(∀ y,L[n]?=some y->p y=false)->(L.takeWhile p).length=n
 | [],n,hn,_,_=>by simp at hn;subst hn;rfl
 | y::r,0,_,_,h=>by rw [List.takeWhile_cons,h y rfl];rfl
 | y::r,n+1,hn,ha,h=>by
  rw [List.takeWhile_cons,ha 0 y (by omega) rfl]
  simp only [if_true,qaF];rw [zhS r n (by simpa using hn) (fun j z hj hz=>ha (j+1) z (by omega) (by simpa using hz)) (fun z hz=>h z (by simpa using hz))]
theorem zji{ps:List Pg}{i k:Nat}(h1:i+1<=k)(h2:k<=ps.length)(h3:∀ l y,i<l->l<k->ps[l]?=some y->y.kind=3)(h4:∀ y,ps[k]?=some y->¬y.kind=3):zea ps i=k:=by
 unfold zea;rw [zhS (ps.drop (i+1)) (k-(i+1)) (by rw [qaI];omega) (fun j y hj hy=>qad (h3 (i+1+j) y (by omega) (by omega) (by rw [qbm]at hy;exact hy))) (fun y hy=>qaj (h4 y (by rw [qbm]at hy;rw [show i+1+(k-(i+1))=k by omega]at hy;exact hy)))]
 omega
theorem zsN(ps:List Pg)(i k:Nat)(sp:Int):(spc ps i k sp).length=ps.length:=by unfold spc;simp
theorem zjk{ps:List Pg}{i k j:Nat}{sp:Int}{y:Pg}(h:ps[j]?=some y):(spc ps i k sp)[j]?=some (if i<=j/\j<k then ⟨y.kind,sp,y.used,y.pins⟩ else y):=by
 unfold spc;rw [qcF,h];rfl
theorem zo7{ps:List Pg}{i k j:Nat}{sp:Int}(h:ps[j]?=none):(spc ps i k sp)[j]?=none:=by
 unfold spc;rw [qcF,h];rfl
theorem zlq{ps:List Pg}{i k:Nat}{sp:Int}{y:Pg}(hi:i<=k)(h:ps[k]?=some y):(spc ps i k sp).set k ⟨y.kind,sp,y.used,y.pins⟩=spc ps i (k+1) sp:=by
 apply qbt
 intro j;rw [qaZ,zsN];have hk:=(qar.1 h).1;by_cases e:k=j
 . subst e;rw [if_pos rfl,if_pos hk,zjk h,if_pos ⟨hi,by omega⟩]
 . rw [if_neg e];cases hj:ps[j]? with
   | none=>rw [zo7 hj,zo7 hj]
   | some z=>
    rw [zjk hj,zjk hj];by_cases c:i<=j/\j<k
    . rw [if_pos c,if_pos ⟨c.1,by omega⟩]
    . rw [if_neg c,if_neg (by omega)]
theorem zqO{ps:List Pg}{i:Nat}{sp:Int}:spc ps i i sp=ps:=by
 apply qbt
 intro j;cases hj:ps[j]? with
 | none=>rw [zo7 hj]
 | some z=>rw [zjk hj,if_neg (by omega)]
theorem zvI{pw np a:Int}(h:ofE pw np a=0):0<=ofI pw np a:=by
 cases hv:confB pw np with
 | false=>have:=(zyU (a:=a) hv).2.2;omega
 | true=>
  cases hi:inAr pw np a with
  | false=>have:=(zf3 hv hi).2.2;omega
  | true=>
   obtain ⟨h1,-,-⟩:=zl7 hv hi;have h2:=zaj hv;unfold inAr at hi;have h3:=qat hi;rw [h1];exact qbT (by omega) (by omega)
def evH(x:Wk)(a:Int):Hd:=⟨decK (evWd x a).toNat,decN (evWd x a).toNat,decM (evWd x a).toNat⟩
structure FwOK (x:Wk):Prop where
 pl:PlOK x
 wl:x.h.words.length<=100000
 ql:x.queue.length<=1000000
def zdp(x:Wk)(A:Int):Wk:={ evW x (zaq x.h.words A) with h:={ (evW x (zaq x.h.words A)).h with words:=zaC (evW x (zaq x.h.words A)).h.words A [evA x (zaq x.h.words A)] } }
def stGo:Wk->Int->List Int->Wk×Int
 | x,_,[]=>(x,0)
 | x,A,i::r=>if evE x (zaq x.h.words (A+1+i))=0 then stGo (zdp x (A+1+i)) A r else (Wk.zero,evE x (zaq x.h.words (A+1+i)))
def StOK:Wk->Int->List Int->Prop
 | _,_,[]=>True
 | x,A,i::r=>FwOK x/\(evE x (zaq x.h.words (A+1+i))=0->StOK (zdp x (A+1+i)) A r)
def stL(x:Wk)(A:Int):List Int:=zgM (evH x A).k (evH x A).n (evH x A).m
def stW(x:Wk)(A:Int):Wk:={ (stGo x A (stL x A)).1 with sc:=wrap64 ((stGo x A (stL x A)).1.sc+1),r5:=wrap64 (wrap64 ((stGo x A (stL x A)).1.r5+1)+(stL x A).length) }
def stE(x:Wk)(A:Int):Int:=(stGo x A (stL x A)).2
theorem stL_bd{x:Wk}{A i:Int}(h:i∈stL x A):0<=i/\i<=1000:=by
 unfold stL zgM at h;split at h
 . rename_i hv;unfold zdc at h;have h1:=(qbM.1 h).1;obtain ⟨j,hj,rfl⟩:=qav.1 h1;have h2:=qbG.1 hj;unfold zaz at hv;have h3:=qat hv;have h4:Int.ofNat j=(j:Int):=rfl
   omega
 . cases h
theorem evA_bd{x:Wk}{a:Int}(hx:PlOK x)(h0:0<=a)(h1:a<18446744073709551616):0<=evA x a/\evA x a<18446744073709551616:=by
 unfold evA;split
 . exact ⟨h0,h1⟩
 . unfold tgtV;split
   . rename_i h;unfold okT at h;rw [qae]at h;have h2:=qat h.2;omega
   . omega
 . exact ⟨h0,h1⟩
 . exact ⟨h0,h1⟩
 . rename_i h;refine zxc hx ?_;unfold evC at h;split at h
   . omega
   split at h
   . omega
   split at h
   . omega
   split at h
   . omega
   split at h
   . omega
   split at h
   . omega
   split at h
   . assumption
   . omega
 . omega
theorem wb_next{x:Wk}{A:Int}(hx:PlOK x)(hw:WB x.h.words)(hy:WB (evW x (zaq x.h.words A)).h.words):WB (zdp x A).h.words:=by
 obtain ⟨k,h1,h2⟩:=zeQ hw A;refine zhO hy (fun v hv=>?_)
 simp only [qa0]at hv;subst hv;exact evA_bd hx (by omega) (by omega)
theorem evW_wl{x:Wk}{n:Nat}(h:x.h.words.length<=n)(a:Int):(evW x a).h.words.length<=n:=by
 unfold evW;split
 . exact h
 . exact h
 . exact h
 . exact h
 . show (zaC (zdw x.h.words _ a _) a [_]).length<=n
   unfold zaC;split
   . rename_i hk;have h1:=qat hk;rw [zcQ (by omega)]
     exact qaB (zuV _ _ _ _) h
   . simp
 . exact qbh _
def allV:Nat->Wk->Wk×Int
 | 0,x=>(x,0)
 | f+1,x=>match x.queue[x.sc.toNat]? with
  | none=>(x,0)
  | some A=>if stE x A=0 then allV f (stW x A) else (Wk.zero,stE x A)
def zyi:Nat->Wk->Prop
 | 0,_=>False
 | f+1,x=>∃ k:Nat,x.sc=k/\k<=1000000/\(x.queue[k]?=none\/∃ A,x.queue[k]?=some A/\0<=A/\A<=1000000/\x.h.words.length<=100000/\StOK x A (stL x A)/\(stE x A=0->(stW x A).sc=((k+1:Nat):Int)/\zyi f (stW x A)))
theorem zvo{f:Nat}{x:Wk}{k:Nat}(hk:x.sc=k)(h:x.queue[k]?=none):allV (f+1) x=(x,0):=by
 unfold allV;rw [hk,qac,h]
theorem zx9{f:Nat}{x:Wk}{k:Nat}{A:Int}(hk:x.sc=k)(h:x.queue[k]?=some A):allV (f+1) x=if stE x A=0 then allV f (stW x A) else (Wk.zero,stE x A):=by
 rw [allV,hk,qac,h]
def zbK(sp:Int)(l:List Pg):Bool:=l.all fun t=>decide (t.kind=3/\t.space=sp)
def zfK(pw np:Int)(ps:List Pg):Nat->Int
 | 0=>0
 | i+1=>if (ps.getD i Pg.zero).kind=2 then max 0 (zat pw np (ps.getD i Pg.zero).used-1) else max 0 (zfK pw np ps i-1)
theorem zlp(sp:Int):∀ (l:List Pg) (m:Nat),m<=zhd sp l↔(m<=l.length/\zbK sp (l.take m)=true)
 | [],m=>by
  rw [zhd];constructor
  . intro h;obtain rfl:m=0:=by omega
    exact ⟨qan _,rfl⟩
  . rintro ⟨h,-⟩;exact h
 | x::r,0=>by simp [zbK]
 | x::r,m+1=>by
  rw [zhd,qcq,qaF];have ih:=zlp sp r m;have e:zbK sp (x::r.take m)=(decide (x.kind=3/\x.space=sp)&&zbK sp (r.take m)):=rfl
  rw [e,qae,qab];by_cases h:x.kind=3/\x.space=sp
  . rw [if_pos h];constructor
    . intro a;obtain ⟨a1,a2⟩:=ih.1 (by omega)
      exact ⟨by omega,h,a2⟩
    . rintro ⟨a1,-,a2⟩;have:=ih.2 ⟨by omega,a2⟩
      omega
  . rw [if_neg h];constructor
    . intro a;omega
    . rintro ⟨-,a,-⟩;exact absurd a h
theorem zvg{pw np:Int}{ps:List Pg}{i:Nat}{x:Pg}(hx:ps[i]?=some x){r:List Pg}{d:Int}(h:zcm pw np x r (zfK pw np ps i)=some d):d=zfK pw np ps (i+1):=by
 rw [zfK,zao hx];unfold zcm at h;split at h
 . cases h
 . split at h
   . rename_i k0;rw [if_neg (by omega)]
     split at h
     . exact (Option.some.inj h).symm
     . cases h
   . split at h
     . rename_i k1;rw [if_neg (by omega)]
       split at h
       . cases h
       . exact (Option.some.inj h).symm
     . split at h
       . rename_i k2;rw [if_pos k2];split at h
         . cases h
         . exact (Option.some.inj h).symm
       . rename_i k2;rw [if_neg k2];split at h
         . split at h
           . exact (Option.some.inj h).symm
           . cases h
         . cases h
theorem zl1{pw np:Int}{ps:List Pg}(h:zaI pw np ps 0=true):∀ i,i<=ps.length->zaI pw np (ps.drop i) (zfK pw np ps i)=true
 | 0,_=>by rw [qbV];exact h
 | i+1,hi=>by
  have ih:=zl1 h i (by omega)
  have hx:ps[i]?=some (ps[i]'(by omega)):=qas _
  rw [qaT (by omega),zaI]at ih
  cases hs:zcm pw np (ps[i]'(by omega)) (ps.drop (i+1)) (zfK pw np ps i) with
  | none=>rw [hs]at ih;cases ih
  | some d=>rw [hs]at ih;rw [<-zvg hx hs];exact ih
def osz(h:Hp)(a:Int):Int:=(atH h a).n+1
def zjo(h:Hp)(g:Pg):Int:=if g.kind=2 then zat h.pw h.np g.used else 1
theorem zrw{pw np n:Int}(h:1<=zat pw np n):n<=zat pw np n*pw/\zat pw np n<=4/\confB pw np=true/\1<=n:=by
 by_cases hc:confB pw np=true/\1<=n
 . rw [zho hc.1 hc.2]at h ⊢
   refine ⟨?_,?_,hc.1,hc.2⟩
   . unfold zeO at h ⊢
     repeat' split
     all_goals first | omega | (exfalso;simp_all)
   . unfold zeO at h ⊢
     repeat' split
     all_goals omega
 . rw [zhp (by
    by_cases h1:confB pw np=true
    . right;have:¬1<=n:=fun h2=>hc ⟨h1,h2⟩;omega
    . left;simpa using h1)]at h
   omega
theorem zhr{pw np:Int}{ps:List Pg}(h:zaI pw np ps 0=true){i:Nat}{g:Pg}(hg:ps[i]?=some g)(hk:g.kind=2):
 1<=zat pw np g.used/\(i:Int)+zat pw np g.used<=ps.length/\∀ t:Nat,i<t->(t:Int)<i+zat pw np g.used->∃ y,ps[t]?=some y/\y.kind=3/\y.space=g.space:=by
 have hi:i<ps.length:=(qar.1 hg).1;have h1:=zl1 h i (by omega)
 have e:ps.drop i=g::ps.drop (i+1):=by
  obtain ⟨hlt,rfl⟩:=qar.1 hg;exact qaT hlt
 rw [e,zaI]at h1;have h2:¬(zat pw np g.used<1\/(zhd g.space (ps.drop (i+1)):Int)<zat pw np g.used-1):=by
  intro hb;have:zcm pw np g (ps.drop (i+1)) (zfK pw np ps i)=none:=by
   unfold zcm;split
   . rfl
   . rw [if_neg (by omega:¬g.kind=0),if_neg (by omega:¬g.kind=1)]
  rw [this]at h1;cases h1
 have h3:(zat pw np g.used-1).toNat<=zhd g.space (ps.drop (i+1)):=by omega
 obtain ⟨h4,h5⟩:=(zlp _ _ _).1 h3;rw [qaI]at h4;refine ⟨by omega,by omega,fun t ht ht2=>?_⟩
 have h6:t<ps.length:=by omega
 refine ⟨ps[t],qas h6,?_⟩;unfold zbK at h5;rw [qaN]at h5;have h7:=h5 ps[t] (by
  rw [List.mem_iff_getElem?];refine ⟨t-(i+1),?_⟩;rw [qa8,if_pos (by omega),qbm]
  rw [show i+1+(t-(i+1))=t from by omega,qas h6])
 exact qat h7
structure Begins (h:Hp) (a:Int) (i j:Nat) (g:Pg):Prop where
 ok:okH h=true
 oi:ofI h.pw h.np a=i
 il:i<h.pages.length
 jl:(j:Int)<h.pw
 ad:a=4096+i*h.pw+j
 pg:h.pages[i]?=some g
 od:okD (za1 h a)=true
 hd:atH h a=hdOf (za1 h a)
 sz:osz h a=dN (za1 h a)+1
 kd:(g.kind=1/\j+osz h a<=g.used/\g.used<=h.pw)\/(g.kind=2/\j=0/\osz h a=g.used/\1<=zat h.pw h.np g.used)
 wl:a+osz h a<=4096+h.words.length
theorem zmS{h:Hp}{a:Int}(e:atE h a=0):∃ i j g,Begins h a i j g:=by
 have h1:okH h=true:=by
  cases h1:okH h
  . unfold atE at e;rw [h1]at e;simp at e
  . rfl
 have h5:ofE h.pw h.np a=0:=by
  by_cases h5:ofE h.pw h.np a=0
  . exact h5
  . unfold atE at e;rw [if_pos h1,if_neg h5]at e;cases e
 have h6:atB h a=true:=by
  cases h6:atB h a
  . unfold atE at e;rw [if_pos h1,if_pos h5,h6]at e;simp at e
  . rfl
 obtain ⟨hin,⟨i,j,e1,e2,hi,hj,ha⟩,t,ht,htl⟩:=zxr h1 h5;have hg:h.pages[i]?=some h.pages[i]:=qas hi
 have hp:zb0 h a=h.pages[i]:=by unfold zb0;rw [e1,qac];exact zao hg
 have hh:atH h a=hdOf (za1 h a):=by unfold atH;rw [if_pos e]
 have hz:osz h a=dN (za1 h a)+1:=by unfold osz;rw [hh];rfl
 unfold atB at h6;rw [hp,e2]at h6;simp only [qae,qab]at h6;obtain ⟨⟨⟨k1,k2⟩,k3⟩,k4⟩:=h6;obtain ⟨c1,c2,c3,c4,c5,c6,c7⟩:=zam h1;obtain ⟨p1,p2,p3,p4,p5⟩:=zaj c1;have hm:=zbO _ _ _ _ c7 _ (qba hg);have pp:=zaR (p:=i) c1 (by omega) (by omega)
 have kd:(h.pages[i].kind=1/\j+osz h a<=h.pages[i].used/\h.pages[i].used<=h.pw)\/(h.pages[i].kind=2/\j=0/\osz h a=h.pages[i].used/\1<=zat h.pw h.np h.pages[i].used):=by
  rcases k1 with k1 | k1
  . left
    rw [if_pos k1]at k4;have:=qat k4
    have h9:=hm.2.2.2.2.2.1 k1;refine ⟨k1,by rw [hz];omega,h9.2⟩
  . right
    rw [if_neg (by omega)]at k4
    obtain ⟨m1,m2⟩:=qat k4;refine ⟨k1,by omega,by rw [hz];exact m2,hm.2.2.2.2.2.2.1 k1⟩
 refine ⟨i,j,h.pages[i],h1,e1,hi,hj,ha,hg,k3,hh,hz,kd,?_⟩;rcases kd with ⟨k,l,m⟩ | ⟨k,l,m,n⟩
 . omega
 . obtain ⟨t1,t2,t3⟩:=zhr c7 hg k;obtain ⟨f1,f2,-⟩:=zrw n;have:(i:Int)*h.pw+zat h.pw h.np h.pages[i].used*h.pw<=h.np*h.pw:=by
    rw [<-qbg];exact qaV (by omega) (by omega)
   omega
theorem Begins.pos{h:Hp}{a:Int}{i j:Nat}{g:Pg}(b:Begins h a i j g):1<=osz h a/\4096<=a:=by
 obtain ⟨c1,c2,c3,c4,c5,c6,c7⟩:=zam b.ok;obtain ⟨p1,p2,p3,p4,p5⟩:=zaj c1;have pp:=zaR (p:=i) c1 (by omega) (by have:=b.il;omega)
 have:=b.sz
 have:=b.ad
 omega
theorem Begins.upto{h:Hp}{a:Int}{i j:Nat}{g:Pg}(b:Begins h a i j g):1<=zjo h g/\4096+(i:Int)*h.pw<=a/\a+osz h a<=4096+((i:Int)+zjo h g)*h.pw/\∀ t:Nat,i<t->(t:Int)<i+zjo h g->∃ y,h.pages[t]?=some y/\y.kind=3:=by
 obtain ⟨c1,c2,c3,c4,c5,c6,c7⟩:=zam b.ok;obtain ⟨p1,p2,p3,p4,p5⟩:=zaj c1;have ha:=b.ad;rw [qbg];rcases b.kd with ⟨k,l,m⟩ | ⟨k,l,m,n⟩
 . have e:zjo h g=1:=by unfold zjo;rw [if_neg (by omega)]
   rw [e,qbk];exact ⟨by omega,by omega,by omega,fun t h1 h2=>by omega⟩
 . have e:zjo h g=zat h.pw h.np g.used:=by unfold zjo;rw [if_pos k]
   obtain ⟨f1,f2,-⟩:=zrw n;obtain ⟨t1,t2,t3⟩:=zhr c7 b.pg k;rw [e];refine ⟨by omega,by omega,by omega,fun t h1 h2=>?_⟩
   obtain ⟨y,h3,h4,-⟩:=t3 t h1 h2;exact ⟨y,h3,h4⟩
theorem zr7{h:Hp}{a b:Int}{i j k l:Nat}{g f:Pg}(ha:Begins h a i j g)(hb:Begins h b k l f)(hik:i<k):a+osz h a<=b:=by
 obtain ⟨u1,u2,u3,u4⟩:=ha.upto;obtain ⟨v1,v2,v3,v4⟩:=hb.upto;obtain ⟨c1,-⟩:=zam ha.ok;obtain ⟨p1,p2,p3,p4,p5⟩:=zaj c1;have h1:¬(k:Int)<i+zjo h g:=fun hlt=>by
  obtain ⟨y,y1,y2⟩:=u4 k hik hlt;rw [hb.pg]at y1;injection y1 with y1
  subst y1;rcases hb.kd with ⟨z,-⟩ | ⟨z,-⟩ <;> omega
 have:((i:Int)+zjo h g)*h.pw<=(k:Int)*h.pw:=qaV (by omega) (by omega)
 omega
theorem zbP{h:Hp}{a:Int}{i j:Nat}{g:Pg}(ha:Begins h a i j g){k:Nat}{f:Pg}(hf:h.pages[k]?=some f)(hk:f.kind=0):a+osz h a<=4096+(k:Int)*h.pw\/4096+(k:Int)*h.pw+h.pw<=a:=by
 obtain ⟨u1,u2,u3,u4⟩:=ha.upto;obtain ⟨c1,-⟩:=zam ha.ok;obtain ⟨p1,p2,p3,p4,p5⟩:=zaj c1;have hne:i≠k:=fun e=>by
  subst e;have:=ha.pg
  rw [hf]at this;injection this with this
  subst this;rcases ha.kd with ⟨z,-⟩ | ⟨z,-⟩ <;> omega
 by_cases hik:i<k
 . left
   have h1:¬(k:Int)<i+zjo h g:=fun hlt=>by
    obtain ⟨y,y1,y2⟩:=u4 k hik hlt;rw [hf]at y1;injection y1 with y1
    subst y1;omega
   have:((i:Int)+zjo h g)*h.pw<=(k:Int)*h.pw:=qaV (by omega) (by omega)
   omega
 . right
   have e1:((k:Int)+1)*h.pw<=(i:Int)*h.pw:=qaV (by omega) (by omega)
   rw [qbg,qbk]at e1;omega
theorem zlG(h:Hp)(i:Nat)(u:Nat)(hc:confB h.pw h.np=true)(hi:(i:Int)<h.np)(hu:(u:Int)<=h.pw):∀ (f o:Nat) (l:List Int),u-o<=f->zcG h i false u o=some l ->
 (∀ a∈l,4096+(i:Int)*h.pw+o<=a)/\l.Pairwise (fun a b=>a+osz h a<=b)
 | f,o,l,hf,hl=>by
  by_cases hlt:o<u
  . have he:atE h (zbj h.pw h.np i o)=0:=by
     by_cases he:atE h (zbj h.pw h.np i o)=0
     . exact he
     . rw [zd0 hlt he]at hl;cases hl
    have hA:zbj h.pw h.np i o=4096+(i:Int)*h.pw+o:=(zhz hc (by unfold inPg;exact qad (by omega))).1
    rw [zes hlt he]at hl;obtain ⟨l2,hl2,rfl⟩:=qbY.1 hl;match f,hf with
    | f+1,hf=>
     have hn:=(zjU he).2.2.2.2.1;obtain ⟨s1,s2⟩:=zlG h i u hc hi hu f _ l2 (by omega) hl2
     refine ⟨fun a ha=>?_,List.pairwise_cons.2 ⟨fun b hb=>?_,s2⟩⟩
     . rcases qap.1 ha with rfl | ha
       . omega
       . have:=s1 a ha;omega
     . have:=s1 b hb
       unfold osz;omega
    | 0,hf=>omega
  . rw [zb8 hlt]at hl;obtain rfl:=Option.some.inj hl;exact ⟨fun a ha=>(by cases ha),List.Pairwise.nil⟩
theorem zkp{h:Hp}(h1:okH h=true)(i:Nat)(hi:i<h.pages.length):(zaK h i).Pairwise (fun a b=>a+osz h a<=b)/\∀ a∈zaK h i,∃ j g,Begins h a i j g:=by
 obtain ⟨c1,c2,c3,c4,c5,c6,c7⟩:=zam h1;obtain ⟨p1,p2,p3,p4,p5⟩:=zaj c1;have hg:h.pages[i]?=some h.pages[i]:=qas hi
 have hpg:pgAt h i=h.pages[i]:=by unfold pgAt;rw [qac];exact zao hg
 have hm:=zbO _ _ _ _ c7 _ (qba hg);have hno:¬((i:Int)<0\/(h.pages.length:Int)<=i):=by omega
 by_cases h3:(pgAt h i).kind=0\/(pgAt h i).kind=3
 . rw [(zfX h1 hno h3).2];exact ⟨List.Pairwise.nil,fun a ha=>by cases ha⟩
 . rw [(zhZ h1 hno h3).2];rw [hpg]at h3;have hk:h.pages[i].kind=1\/h.pages[i].kind=2:=by omega
   cases hw:zeE h i with
   | none=>exact ⟨List.Pairwise.nil,fun a ha=>by cases ha⟩
   | some l=>
    rw [qcd];unfold zeE at hw;rw [hpg]at hw;have hat:=zsI h i _ _ _ 0 l (qan _) hw;have hbg:∀ a∈l,∃ j g,Begins h a i j g:=fun a ha=>by
     obtain ⟨e1,o,o1,o2,o3⟩:=hat a ha;obtain ⟨i2,j,g,hb⟩:=zmS e1;have hi2:i2=i:=by
      have h4:=hb.oi;rw [o3]at h4;cases hpi:inPg h.pw h.np i o with
      | false=>
       have h8:=(zqh c1 hpi).1;have:=hb.pos.2
       omega
      | true=>
       obtain ⟨a1,a2,a3⟩:=zs1 c1 hpi;rw [(zhz c1 hpi).1,(zl7 c1 a1).1,a2]at h4;omega
     subst hi2;exact ⟨j,g,hb⟩
    refine ⟨?_,hbg⟩;rcases hk with hk | hk
    . rw [show decide (h.pages[i].kind=2)=false from qaj (by omega)]at hw
      have h9:=hm.2.2.2.2.2.1 hk;exact (zlG h i _ c1 (by omega) (by omega) _ 0 l (qan _) hw).2
    . rw [show decide (h.pages[i].kind=2)=true from qad hk]at hw
      by_cases hlt:0<h.pages[i].used.toNat
      . by_cases he:atE h (zbj h.pw h.np i ((0:Nat):Int))=0
        . rw [zgA hlt he]at hw;obtain rfl:=Option.some.inj hw;exact List.pairwise_singleton _ _
        . rw [zd0 hlt he]at hw;cases hw
      . rw [zb8 hlt]at hw;obtain rfl:=Option.some.inj hw;exact List.Pairwise.nil
theorem zfP{h:Hp}(h1:okH h=true):∀ k:Nat,k<=h.pages.length->(zby h k).Pairwise (fun a b=>a+osz h a<=b)/\∀ a∈zby h k,∃ i j g,i<k/\Begins h a i j g
 | 0,_=>by
  have:zby h 0=[]:=rfl
  rw [this];exact ⟨List.Pairwise.nil,fun a ha=>by cases ha⟩
 | k+1,hk=>by
  obtain ⟨s1,s2⟩:=zfP h1 k (by omega)
  obtain ⟨t1,t2⟩:=zkp h1 k (by omega)
  rw [ze5];refine ⟨List.pairwise_append.2 ⟨s1,t1,fun a ha b hb=>?_⟩,fun a ha=>?_⟩
  . obtain ⟨i,j,g,hi,hba⟩:=s2 a ha;obtain ⟨l,f,hbb⟩:=t2 b hb;exact zr7 hba hbb hi
  . rcases qaq.1 ha with ha | ha
    . obtain ⟨i,j,g,hi,hba⟩:=s2 a ha;exact ⟨i,j,g,by omega,hba⟩
    . obtain ⟨j,g,hba⟩:=t2 a ha;exact ⟨k,j,g,by omega,hba⟩
theorem zee(h:Hp):(zag h).Pairwise (fun a b=>a+osz h a<=b):=by
 unfold zag zci;refine List.Pairwise.filter _ ?_;unfold zaW;by_cases h1:okH h=true
 . rw [if_pos h1];split
   . exact (zfP h1 _ (qan _)).1
   . exact List.Pairwise.nil
 . rw [if_neg h1];exact List.Pairwise.nil
theorem zko{R:Int->Int->Prop}:∀ {l:List Int},l.Pairwise R->∀ {a b:Int},a∈l->b∈l->a=b\/R a b\/R b a
 | [],_,a,b,ha,_=>by cases ha
 | c::l,hp,a,b,ha,hb=>by
  obtain ⟨h1,h2⟩:=List.pairwise_cons.1 hp;rcases qap.1 ha with ha2 | ha2 <;> rcases qap.1 hb with hb2 | hb2
  . exact Or.inl (ha2.trans hb2.symm)
  . subst ha2;exact Or.inr (Or.inl (h1 _ hb2))
  . subst hb2;exact Or.inr (Or.inr (h1 _ ha2))
  . exact zko h2 ha2 hb2
theorem zpo{h:Hp}{a b:Int}(ha:a∈zag h)(hb:b∈zag h)(hne:a≠b):a+osz h a<=b\/b+osz h b<=a :=
 (zko (zee h) ha hb).resolve_left hne
theorem zas{h:Hp}{a:Int}(ha:a∈zag h):∃ i j g,Begins h a i j g:=zmS (zce ha).1
theorem zav{len:Nat}{a:Int}{n:Nat}:okA len a n=true↔4096<=a/\a+n<=4096+len:=by
 unfold okA;rw [qab];omega
theorem zd5(xs:List Int){a:Int}(h:4096<=a):zaq xs a=(xs[(a-4096).toNat]?).getD 0:=by
 unfold zaq;by_cases hk:okA xs.length a 1=true
 . rw [if_pos hk,qay]
 . rw [if_neg hk];have:xs[(a-4096).toNat]?=none:=by
    rw [qcI];have h2:¬(4096<=a/\a+(1:Nat)<=4096+xs.length):=fun c=>hk (zav.2 c)
    omega
   rw [this];rfl
theorem zlw(xs:List Int){a:Int}(h:a<4096):zaq xs a=0:=by
 unfold zaq okA;rw [if_neg];simp only [qab];omega
theorem zer{xs l:List Int}{p:Int}(h:okA xs.length p l.length=true):(zaC xs p l).length=xs.length:=by
 unfold zaC;rw [if_pos h]
 have:=zav.1 h
 exact zcQ (by omega)
theorem zbI{xs l:List Int}{p:Int}(h:okA xs.length p l.length=true){a:Int}(ha:a<p\/p+l.length<=a):zaq (zaC xs p l) a=zaq xs a:=by
 have h2:=zav.1 h;by_cases h4:4096<=a
 . rw [zd5 _ h4,zd5 _ h4];unfold zaC;rw [if_pos h,zgB (by omega) (by omega)]
 . rw [zlw _ (by omega),zlw _ (by omega)]
theorem zim{xs:List Int}{p v:Int}(h:okA xs.length p 1=true):zaq (zaC xs p [v]) p=v:=by
 have h2:=zav.1 h;rw [zd5 _ h2.1];unfold zaC;rw [if_pos (show okA xs.length p [v].length=true from h),zfR (by simp;omega) (qan _) (by simp),qbQ];rfl
theorem zlv{xs:List Int}{t f n:Int}(h0:0<=n)(ht:okA xs.length t n.toNat=true)(hf:okA xs.length f n.toNat=true):(zdw xs t f n).length=xs.length:=by
 unfold zdw;rw [if_neg (by omega),if_pos ⟨ht,hf⟩]
 have h1:=zav.1 ht;have h2:=zav.1 hf;refine zcQ ?_;rw [qau,qaI];omega
theorem zin{xs:List Int}{t f n:Int}(h0:0<=n)(ht:okA xs.length t n.toNat=true)(hf:okA xs.length f n.toNat=true){a:Int}(ha:a<t\/t+n<=a):zaq (zdw xs t f n) a=zaq xs a:=by
 have h1:=zav.1 ht;have h2:=zav.1 hf;by_cases h4:4096<=a
 . rw [zd5 _ h4,zd5 _ h4];unfold zdw;rw [if_neg (by omega),if_pos ⟨ht,hf⟩,zgB (by rw [qau,qaI];omega) (by rw [qau,qaI];omega)]
 . rw [zlw _ (by omega),zlw _ (by omega)]
theorem zkt{xs:List Int}{t f n:Int}(h0:0<=n)(ht:okA xs.length t n.toNat=true)(hf:okA xs.length f n.toNat=true){k:Int}(hk0:0<=k)(hk:k<n):zaq (zdw xs t f n) (t+k)=zaq xs (f+k):=by
 have h1:=zav.1 ht;have h2:=zav.1 hf;rw [zd5 _ (by omega),zd5 _ (by omega)]
 unfold zdw;rw [if_neg (by omega),if_pos ⟨ht,hf⟩,zfR (by rw [qau,qaI];omega) (by omega) (by rw [qau,qaI];omega),qa8,if_pos (by omega),qbm]
 congr 2;omega
def zb7(x:Wk)(q:Int):Prop:=∃ (k:Nat) (g:Pg),(k:Int)∈x.taken/\x.h.pages[k]?=some g/\4096+(k:Int)*x.h.pw<=q/\okD (evWd x q).toNat=true/\q+evN x q<=4096+(k:Int)*x.h.pw+g.used
def zcp(x:Wk)(a:Int):Bool:=decide (¬a∈x.queue) && !okT (evWd x a).toNat
structure Inv (h:Hp) (x:Wk):Prop where
 ok:okH h=true
 pw:x.h.pw=h.pw
 np:x.h.np=h.np
 sp:x.h.space=h.space
 old:x.old=zag h
 wl:x.h.words.length=h.words.length
 pl:x.h.pages.length=h.pages.length
 tk:∀ t∈x.taken,∃ (k:Nat) (g0 g:Pg),t=(k:Int)/\h.pages[k]?=some g0/\g0.kind=0/\x.h.pages[k]?=some g/\g.kind=1/\0<=g.used/\g.used<=h.pw
 pg:∀ (k:Nat) (g0:Pg),h.pages[k]?=some g0->¬(k:Int)∈x.taken->∃ g,x.h.pages[k]?=some g/\g.kind=g0.kind/\g.used=g0.used
 tl:x.taken.length<=zbd x.h.pages
 un:∀ a∈zag h,evWd x a=zaq h.words a\/(okT (evWd x a).toNat=true/\¬a∈x.queue/\zeC x (ofI h.pw h.np a)=false)
 qs:∀ q∈x.queue,q∈zag h\/zb7 x q
 dj:∀ q∈x.queue,∀ r∈x.queue,zb7 x q->zb7 x r->q≠r->q+evN x q<=r\/r+evN x r<=q
 cnt:x.queue.length+((zag h).filter (zcp x)).length<=(zag h).length
structure Later (x y:Wk):Prop where
 sc:y.sc=x.sc
 qu:∃ l,y.queue=x.queue++l
 hd:∀ q∈x.queue,evWd y q=evWd x q
theorem Later.refl(x:Wk):Later x x:=⟨rfl,⟨[],by simp⟩,fun _ _=>rfl⟩
theorem Later.mem{x y:Wk}(h:Later x y){q:Int}(hq:q∈x.queue):q∈y.queue:=by
 obtain ⟨l,e⟩:=h.qu;rw [e];exact qaJ _ hq
theorem Later.trans{x y z:Wk}(h:Later x y)(k:Later y z):Later x z:=by
 refine ⟨k.sc.trans h.sc,?_,fun q hq=>(k.hd q (h.mem hq)).trans (h.hd q hq)⟩
 obtain ⟨l,e⟩:=h.qu;obtain ⟨m,f⟩:=k.qu;exact ⟨l++m,by rw [f,e,qaS]⟩
theorem zvd{x:Wk}{a:Int}(h:okD (evWd x a).toNat=true):evN x a=dN (evWd x a).toNat+1/\(evH x a).n=dN (evWd x a).toNat:=by
 have e:=zrY h;have v:=(zct h).2.2;refine ⟨?_,?_⟩
 . unfold evN;rw [e.1,e.2.1,e.2.2,zcq v]
 . unfold evH;exact e.2.1
theorem zl6{h:Hp}{x:Wk}{a:Int}(ha:a∈zag h)(e:evWd x a=zaq h.words a):okD (evWd x a).toNat=true/\evN x a=osz h a/\(evH x a).n+1=osz h a/\okT (evWd x a).toNat=false:=by
 obtain ⟨i,j,g,b⟩:=zas ha;have hp:=b.pos;have h1:(evWd x a).toNat=za1 h a:=by
  rw [e,zd5 _ hp.2];unfold za1;rw [qay]
 have h2:okD (evWd x a).toNat=true:=by rw [h1];exact b.od
 obtain ⟨e1,e2⟩:=zvd h2;have hs:=b.sz;rw [<-h1]at hs;refine ⟨h2,by omega,by omega,?_⟩
 rw [<-qbu];exact fun c=>apart _ ⟨h2,c⟩
theorem Inv.kept{h:Hp}{x:Wk}(I:Inv h x){a:Int}(ha:a∈zag h)(hq:a∈x.queue):evWd x a=zaq h.words a :=
 (I.un a ha).elim id (fun c=>absurd hq c.2.1)
theorem Inv.conf{h:Hp}{x:Wk}(I:Inv h x):16<=h.pw/\h.pw<=64/\8<=h.np/\h.np<=64/\(h.words.length:Int)=h.np*h.pw/\(h.pages.length:Int)=h.np/\h.np*h.pw<=4096/\0<=h.space/\h.space<=1:=by
 obtain ⟨c1,c2,c3,c4,c5,c6,c7⟩:=zam I.ok;obtain ⟨p1,p2,p3,p4,p5⟩:=zaj c1;exact ⟨p1,p2,p4,p5,c2,c3,(conf_prod c1).2,c4,c5⟩
theorem Inv.qlen{h:Hp}{x:Wk}(I:Inv h x):x.queue.length<=(zag h).length/\(zag h).length<=4096:=by
 refine ⟨by have:=I.cnt;omega,?_⟩
 unfold zag zci;exact qaB (qbN _ _) (zcP h)
theorem Inv.plok{h:Hp}{x:Wk}(I:Inv h x):PlOK x:=by
 obtain ⟨c1,c2,c3,c4,c5,c6,c7,c8,c9⟩:=I.conf;have h1:=I.pl;refine ⟨by rw [I.pw];exact c1,by rw [I.pw];exact c2,by omega,by omega,by rw [I.sp];exact c8,by rw [I.sp];exact c9,?_,fun l hl=>?_⟩
 . have h2:=I.tl;have h3:=zit x.h.pages;omega
 . obtain ⟨k,g0,g,e,-,-,h4,-,h5,h6⟩:=I.tk l (List.mem_of_getLast? hl);exact ⟨k,e,g,h4,h5,by rw [I.pw];exact h6⟩
theorem Inv.fwok{h:Hp}{x:Wk}(I:Inv h x):FwOK x:=by
 have h1:=I.conf;have h2:=I.wl;have h3:=I.qlen;exact ⟨I.plok,by omega,by omega⟩
theorem Inv.copy{h:Hp}{x:Wk}(I:Inv h x){q:Int}(hc:zb7 x q):∃ (k:Nat) (g0:Pg),h.pages[k]?=some g0/\g0.kind=0/\(k:Int)<h.np/\4096+(k:Int)*h.pw<=q/\q+evN x q<=4096+(k:Int)*h.pw+h.pw/\1<=evN x q/\okD (evWd x q).toNat=true:=by
 obtain ⟨k,g,h1,h2,h3,h4,h5⟩:=hc;obtain ⟨k2,g0,g2,e,f1,f2,f3,f4,f5,f6⟩:=I.tk _ h1;obtain rfl:k=k2:=by omega
 rw [h2]at f3;injection f3 with f3
 subst f3;have:=(zvd h4).1
 have h7:=(qar.1 f1).1;have h8:=I.conf;rw [I.pw]at h3 h5;exact ⟨k,g0,f1,f2,by omega,h3,by omega,by omega,h4⟩
theorem Inv.old_copy{h:Hp}{x:Wk}(I:Inv h x){a q:Int}(ha:a∈zag h)(hc:zb7 x q):a+osz h a<=q\/q+evN x q<=a:=by
 obtain ⟨k,g0,h1,h2,h3,h4,h5,h6,h7⟩:=I.copy hc;obtain ⟨i,j,g,b⟩:=zas ha;have:=zbP b h1 h2
 omega
theorem Inv.inside{h:Hp}{x:Wk}(I:Inv h x){A i:Int}(hA:A∈x.queue)(h0:0<=i)(h1:i<(evH x A).n):
 okA x.h.words.length (A+1+i) 1=true/\(∀ a∈zag h,A+1+i≠a)/\(∀ q∈x.queue,A+1+i≠q):=by
 have hcf:=I.conf;have hwl:=I.wl;rcases I.qs A hA with ho | hc
 . have e:=I.kept ho hA;obtain ⟨e1,e2,e3,e4⟩:=zl6 ho e;obtain ⟨i2,j2,g,b⟩:=zas ho;have hb:=b.pos;have hbl:=b.wl;have hold:∀ a∈zag h,A+1+i≠a:=fun a ha eq=>by
    by_cases hne:A=a
    . omega
    . have h2:=zpo ho ha hne;obtain ⟨i3,j3,g3,b3⟩:=zas ha;have:=b3.pos
      omega
   refine ⟨zav.2 (by omega),hold,fun q hq eq=>?_⟩
   rcases I.qs q hq with h2 | h2
   . exact hold q h2 eq
   . have h3:=I.old_copy ho h2;obtain ⟨k,g0,f1,f2,f3,f4,f5,f6,f7⟩:=I.copy h2;omega
 . obtain ⟨k,g0,f1,f2,f3,f4,f5,f6,f7⟩:=I.copy hc;obtain ⟨e1,e2⟩:=zvd f7;obtain ⟨c1,-⟩:=zam I.ok;have pp:=zaR (p:=k) c1 (by omega) f3
   have hold:∀ a∈zag h,A+1+i≠a:=fun a ha eq=>by
    have h3:=I.old_copy ha hc;obtain ⟨i3,j3,g3,b3⟩:=zas ha;have:=b3.pos
    omega
   refine ⟨zav.2 (by omega),hold,fun q hq eq=>?_⟩
   rcases I.qs q hq with h2 | h2
   . exact hold q h2 eq
   . by_cases hne:A=q
     . omega
     . have h3:=I.dj A hA q hq hc h2 hne;obtain ⟨k2,g2,d1,d2,d3,d4,d5,d6,d7⟩:=I.copy h2;omega
theorem zmE{p q:Int->Bool}:∀ {l:List Int},(∀ a∈l,p a=q a)->l.filter p=l.filter q
 | [],_=>rfl
 | a::l,h=>by
  rw [qb7,qb7,h a (qbi ..),zmE (fun b hb=>h b (qaD _ hb))]
theorem zhu{p q:Int->Bool}{c:Int}:∀ {l:List Int},(∀ a∈l,q a=true->p a=true)->c∈l->p c=true->q c=false->(l.filter q).length+1<=(l.filter p).length
 | [],_,hc,_,_=>by cases hc
 | a::l,h,hc,hp,hq=>by
  have hle:∀ {m:List Int},(∀ a∈m,q a=true->p a=true)->(m.filter q).length<=(m.filter p).length:=by
   intro m;induction m with
   | nil=>intro _;exact qan _
   | cons b m ih=>
    intro hm;have h1:=ih (fun a ha=>hm a (qaD _ ha))
    have h2:=hm b (qbi ..);rw [qb7,qb7];cases hqb:q b
    . simp only [qbl,qbf];cases p b <;> simp <;> omega
    . rw [h2 hqb];simp;omega
  rw [qb7,qb7];rcases qap.1 hc with rfl | hc
  . rw [hp,hq];have:=hle (m:=l) (fun a ha=>h a (qaD _ ha))
    simp;omega
  . have h1:=zhu (fun a ha=>h a (qaD _ ha)) hc hp hq
    have h2:=h a (qbi ..);cases hqb:q a
    . simp only [qbl,qbf];cases p a <;> simp <;> omega
    . rw [h2 hqb];simp;omega
theorem Inv.write{h:Hp}{x:Wk}(I:Inv h x){p v:Int}(hp:okA x.h.words.length p 1=true)(h1:∀ a∈zag h,p≠a)(h2:∀ q∈x.queue,p≠q):
 Inv h { x with h:={ x.h with words:=zaC x.h.words p [v] } }/\Later x { x with h:={ x.h with words:=zaC x.h.words p [v] } }:=by
 have hev:∀ a,p≠a->evWd { x with h:={ x.h with words:=zaC x.h.words p [v] } } a=evWd x a:=fun a ha=>by
  unfold evWd;exact zbI (l:=[v]) hp (by simp only [qbL];omega)
 have hcp:∀ q∈x.queue,(zb7 { x with h:={ x.h with words:=zaC x.h.words p [v] } } q↔zb7 x q):=fun q hq=>by
  unfold zb7 evN;rw [hev q (h2 q hq)]
 have hn:∀ q∈x.queue,evN { x with h:={ x.h with words:=zaC x.h.words p [v] } } q=evN x q:=fun q hq=>by
  unfold evN;rw [hev q (h2 q hq)]
 refine ⟨⟨I.ok,I.pw,I.np,I.sp,I.old,?_,I.pl,I.tk,I.pg,I.tl,fun a ha=>?_,fun q hq=>?_,fun q hq r hr cq cr hne=>?_,?_⟩,⟨rfl,⟨[],by simp⟩,fun q hq=>hev q (h2 q hq)⟩⟩
 . exact (zer (l:=[v]) hp).trans I.wl
 . rw [hev a (h1 a ha)];exact I.un a ha
 . rcases I.qs q hq with c | c
   . exact Or.inl c
   . exact Or.inr ((hcp q hq).2 c)
 . rw [hn q hq,hn r hr];exact I.dj q hq r hr ((hcp q hq).1 cq) ((hcp r hr).1 cr) hne
 . rw [zmE (q:=zcp x) (fun a ha=>by unfold zcp;rw [hev a (h1 a ha)])];exact I.cnt
theorem zmy:∀ {ps:List Pg} {k:Nat} {z y:Pg},ps[k]?=some z->zbd (ps.set k y)+(if z.kind=0 then 0 else 1)=zbd ps+(if y.kind=0 then 0 else 1)
 | [],k,z,y,h=>by simp at h
 | a::r,0,z,y,h=>by
  simp at h;subst h
  rw [List.set_cons_zero,zbd,zbd];omega
 | a::r,k+1,z,y,h=>by
  have ih:=zmy (ps:=r) (k:=k) (z:=z) (y:=y) (by simpa using h)
  rw [List.set_cons_succ,zbd,zbd];omega
theorem zmz:∀ {ps qs:List Pg},ps.map (·.kind)=qs.map (·.kind)->zbd ps=zbd qs
 | [],[],_=>rfl
 | [],_::_,h=>by simp at h
 | _::_,[],h=>by simp at h
 | a::r,b::s,h=>by
  simp at h
  rw [zbd,zbd,h.1,zmz (ps:=r) (qs:=s) h.2]
theorem Inv.place{h:Hp}{x:Wk}(I:Inv h x){n:Int}(hn0:1<=n)(hn:n<=h.pw)(hb:plB x n=true):∃ (J:Nat) (u:Int) (g0 g1:Pg),
 plA x n=4096+(J:Int)*h.pw+u/\0<=u/\u+n<=h.pw/\(J:Int)<h.np/\h.pages[J]?=some g0/\g0.kind=0 /\
 (∀ k:Nat,k≠J->(plW x n).h.pages[k]?=x.h.pages[k]?)/\(plW x n).h.pages[J]?=some g1/\g1.kind=1/\g1.used=u+n /\
 (plW x n).h.pages.length=x.h.pages.length/\(J:Int)∈(plW x n).taken/\(∀ t,t∈(plW x n).taken↔t∈x.taken\/t=J)/\(plW x n).taken.length<=zbd (plW x n).h.pages /\
 ((J:Int)∈x.taken->∃ g,x.h.pages[J]?=some g/\g.used=u):=by
 have hcf:=I.conf;obtain ⟨J,y,p1,p2,p3,p4,p5,p6,p7⟩:=zeD I.plok hb;have hpl:=I.pl;have htl:=I.tl;have e1:(plW x n).h.pages=(plPs x n).set J ⟨y.kind,y.space,y.used+n,y.pins⟩:=by
  show zgK (plPs x n) (plJ x n).toNat n=_
  unfold zgK;rw [p1,qac,zao p4]
 have e2:(plW x n).taken=plT x n:=rfl
 have hA:plA x n=4096+(J:Int)*h.pw+y.used:=by
  unfold plA;rw [p1,qac,zao p4,I.pw]
 rw [I.pw]at p6 p7;have hJ:(plW x n).h.pages[J]?=some ⟨y.kind,y.space,y.used+n,y.pins⟩:=by
  rw [e1,qaZ];simp [p3,p2]
 have hu1:zbd (plW x n).h.pages=zbd (plPs x n):=by
  have:=zmy (y:=⟨y.kind,y.space,y.used+n,y.pins⟩) p4
  rw [e1];simp only at this;omega
 rcases p7 with ⟨r1,r2,r3,r4⟩ | ⟨r1,r2,r3,r4,z,r5,r6⟩
 . have hm:(J:Int)∈x.taken:=List.mem_of_getLast? r3;obtain ⟨k2,g0,g,f0,f1,f2,f3,f4,f5,f6⟩:=I.tk _ hm;obtain rfl:J=k2:=by omega
   rw [r2]at p4;rw [f3]at p4;injection p4 with p4
   subst p4;have hT:(plW x n).taken=x.taken:=by rw [e2];unfold plT;rw [if_pos r1]
   refine ⟨J,g.used,g0,_,hA,f5,r4,by omega,f1,f2,fun k hk=>?_,hJ,f4,rfl,by rw [e1,List.length_set,p3],by rw [hT];exact hm,fun t=>?_,?_,fun _=>⟨g,f3,rfl⟩⟩
   . rw [e1,qbX (by omega),r2]
   . rw [hT];constructor
     . intro h;exact Or.inl h
     . rintro (h | rfl)
       . exact h
       . exact hm
   . rw [hu1,hT,r2];exact htl
 . have hnt:¬(J:Int)∈x.taken:=fun hm=>by
    obtain ⟨k2,g0,g,f0,f1,f2,f3,f4,f5,f6⟩:=I.tk _ hm;obtain rfl:J=k2:=by omega
    rw [r5]at f3;injection f3 with f3
    subst f3;omega
   have hlt:J<h.pages.length:=by omega
   obtain ⟨g,f1,f2,f3⟩:=I.pg J h.pages[J] (qas hlt) hnt;rw [r5]at f1;injection f1 with f1
   subst f1;have hT:(plW x n).taken=x.taken++[(J:Int)]:=by rw [e2];unfold plT;rw [r1,r2];rfl
   subst r4;refine ⟨J,0,h.pages[J],_,hA,qb6 _,by omega,by omega,qas hlt,by omega,fun k hk=>?_,hJ,rfl,rfl,by rw [e1,List.length_set,p3],by rw [hT];simp,fun t=>?_,?_,fun hm=>absurd hm hnt⟩
   . rw [e1,qbX (by omega),r3,qbX (by omega)]
   . rw [hT];simp
   . rw [hu1,hT,r3,qaE];have:=zmy (y:=⟨1,1-x.h.space,0,0⟩) r5
     rw [if_pos r6,if_neg (by simp)]at this
     simp only [qbL];omega
theorem zvF{x y:Wk}{i:Nat}(h1:y.h.pages[i]?=x.h.pages[i]?)(h2:y.h.space=x.h.space)(h3:(i:Int)∈y.taken↔(i:Int)∈x.taken):zeC y i=zeC x i:=by
 unfold zeC;rw [qac,h1,h2];cases x.h.pages[i]? with
 | none=>rfl
 | some g=>simp only [h3]
theorem Inv.begun{h:Hp}{x:Wk}(I:Inv h x){a:Int}{i j:Nat}{g:Pg}(b:Begins h a i j g):¬(i:Int)∈x.taken:=fun hm=>by
 obtain ⟨k2,g0,g2,f0,f1,f2,-⟩:=I.tk _ hm;obtain rfl:i=k2:=by omega
 have:=b.pg
 rw [f1]at this;injection this with this
 subst this;rcases b.kd with ⟨k,-⟩ | ⟨k,-⟩ <;> omega
theorem zs0{a:Int}(h0:0<=a)(h1:a<4294967296):okT (fwdV a).toNat=true:=by
 rw [(fwd_ok h1).1];refine okT_mk ?_ ?_ <;> omega
theorem Inv.keep{h:Hp}{x:Wk}(I:Inv h x){a:Int}(ha:a∈zag h)(hq:¬a∈x.queue)(ht:okT (evWd x a).toNat=false):Inv h (zei x a)/\Later x (zei x a):=by
 have e1:∀ b,evWd (zei x a) b=evWd x b:=fun b=>rfl
 have e2:∀ b,evN (zei x a) b=evN x b:=fun b=>rfl
 have e3:∀ b,zb7 (zei x a) b↔zb7 x b:=fun b=>Iff.rfl
 have hm:∀ b,b∈(zei x a).queue↔b∈x.queue\/b=a:=fun b=>by show b∈x.queue++[a]↔_;simp
 have hnc:∀ q,zb7 x q->q≠a:=fun q hc e=>by
  subst e;have h1:=I.old_copy ha hc;obtain ⟨k,g0,f1,f2,f3,f4,f5,f6,f7⟩:=I.copy hc;obtain ⟨i,j,g,b⟩:=zas ha;have:=b.pos
  omega
 refine ⟨⟨I.ok,I.pw,I.np,I.sp,I.old,I.wl,I.pl,I.tk,I.pg,I.tl,fun b hb=>?_,fun q hqq=>?_,fun q hq2 r hr2 cq cr hne=>?_,?_⟩,⟨rfl,⟨[a],rfl⟩,fun _ _=>rfl⟩⟩
 . rcases I.un b hb with c | ⟨c1,c2,c3⟩
   . exact Or.inl c
   . refine Or.inr ⟨c1,fun hin=>?_,c3⟩
     rcases (hm b).1 hin with h2 | h2
     . exact c2 h2
     . subst h2;rw [ht]at c1;cases c1
 . rcases (hm q).1 hqq with h2 | h2
   . exact I.qs q h2
   . subst h2;exact Or.inl ha
 . have hq3:=((hm q).1 hq2).resolve_right (hnc q cq);have hr3:=((hm r).1 hr2).resolve_right (hnc r cr);exact I.dj q hq3 r hr3 cq cr hne
 . have h1:((zag h).filter (zcp (zei x a))).length+1<=((zag h).filter (zcp x)).length:=by
    refine zhu (c:=a) (fun b hb hu=>?_) ha ?_ ?_
    . unfold zcp at hu ⊢
      simp only [qae,qab]at hu ⊢;exact ⟨fun h2=>hu.1 ((hm b).2 (Or.inl h2)),hu.2⟩
    . unfold zcp;simp [hq,ht]
    . unfold zcp;rw [qaj (by simp [hm])];rfl
   have h2:(zei x a).queue.length=x.queue.length+1:=by show (x.queue++[a]).length=_;simp
   have:=I.cnt
   omega
theorem zkm{P:Pg->Bool}:∀ {l:List Pg} {k:Nat},k<(l.takeWhile P).length->∃ y,l[k]?=some y/\P y=true
 | [],k,h=>by simp at h
 | a::l,k,h=>by
  rw [List.takeWhile_cons]at h;split at h
  . rename_i hp;cases k with
    | zero=>exact ⟨a,rfl,hp⟩
    | succ k=>
     obtain ⟨y,h1,h2⟩:=zkm (l:=l) (k:=k) (by simpa using h)
     exact ⟨y,by simpa using h1,h2⟩
  . simp at h
theorem Inv.large{h:Hp}{x:Wk}(I:Inv h x){i:Nat}{g:Pg}(hg:x.h.pages[i]?=some g)(hk:g.kind=2):Inv h (zcK x i)/\Later x (zcK x i)/\(∀ a,evWd (zcK x i) a=evWd x a)/\(zcK x i).queue=x.queue:=by
 have hat:∀ (k:Nat) (y:Pg),x.h.pages[k]?=some y->∃ s,(zcK x i).h.pages[k]?=some ⟨y.kind,s,y.used,y.pins⟩/\(¬(y.kind=2\/y.kind=3)->s=y.space):=fun k y hy=>by
  show ∃ s,(spc x.h.pages i (zea x.h.pages i) (1-x.h.space))[k]?=_/\_
  unfold spc;rw [qcF,hy];simp only [qbF];by_cases hr:i<=k/\k<zea x.h.pages i
  . rw [if_pos hr];refine ⟨1-x.h.space,rfl,fun hno=>?_⟩
    exfalso
    apply hno
    by_cases e:k=i
    . subst e;rw [hg]at hy;injection hy with hy;subst hy;exact Or.inl hk
    . right
      unfold zea at hr;obtain ⟨z,z1,z2⟩:=zkm (l:=x.h.pages.drop (i+1)) (k:=k-(i+1)) (P:=fun y=>decide (y.kind=3)) (by omega)
      rw [qbm,show i+1+(k-(i+1))=k from by omega,hy]at z1
      injection z1 with z1
      subst z1;exact qat z2
  . rw [if_neg hr];exact ⟨y.space,rfl,fun _=>rfl⟩
 have hkd:(zcK x i).h.pages.map (·.kind)=x.h.pages.map (·.kind):=by
  apply qbt
  intro k;rw [qbd,qbd];cases hy:x.h.pages[k]? with
  | some y=>
   obtain ⟨s,h1,-⟩:=hat k y hy;rw [h1];rfl
  | none=>
   have:(zcK x i).h.pages[k]?=none:=by
    show (spc x.h.pages i (zea x.h.pages i) (1-x.h.space))[k]?=none
    unfold spc;rw [qcF,hy];rfl
   rw [this]
 have hln:(zcK x i).h.pages.length=x.h.pages.length:=by
  have:=congrArg List.length hkd
  rwa [qai,qai]at this
 have hcp:∀ q,zb7 (zcK x i) q->zb7 x q:=fun q ⟨k,g2,c1,c2,c3,c4,c5⟩=>by
  cases hy:x.h.pages[k]? with
  | some y=>
   obtain ⟨s,h1,-⟩:=hat k y hy;rw [h1]at c2;injection c2 with c2
   exact ⟨k,y,c1,hy,c3,c4,by subst c2;exact c5⟩
  | none=>
   have h1:=qcI.1 hy;have h2:=(qar.1 c2).1;omega
 refine ⟨⟨I.ok,I.pw,I.np,I.sp,I.old,I.wl,hln.trans I.pl,fun t ht=>?_,fun k g0 hg0 hnt=>?_,?_,fun a ha=>?_,fun q hq=>?_,fun q hq r hr cq cr hne=>I.dj q hq r hr (hcp q cq) (hcp r cr) hne,I.cnt⟩,⟨rfl,⟨[],by simp [zcK]⟩,fun _ _=>rfl⟩,fun _=>rfl,rfl⟩
 . obtain ⟨k,g0,g2,f0,f1,f2,f3,f4,f5,f6⟩:=I.tk t ht;obtain ⟨s,h1,-⟩:=hat k g2 f3;exact ⟨k,g0,_,f0,f1,f2,h1,f4,f5,f6⟩
 . obtain ⟨g2,f1,f2,f3⟩:=I.pg k g0 hg0 hnt;obtain ⟨s,h1,-⟩:=hat k g2 f1;exact ⟨_,h1,f2,f3⟩
 . rw [zmz hkd];exact I.tl
 . rcases I.un a ha with c | ⟨c1,c2,c3⟩
   . exact Or.inl c
   . refine Or.inr ⟨c1,c2,?_⟩;obtain ⟨i2,j2,g2,b⟩:=zas ha;rw [b.oi]at c3 ⊢
     obtain ⟨y,f1,f2,f3⟩:=I.pg i2 g2 b.pg (I.begun b);obtain ⟨s,h1,h2⟩:=hat i2 y f1;unfold zeC at c3 ⊢
     rw [qac,f1]at c3;rw [qac,h1];simp only at c3 ⊢
     by_cases hk1:y.kind=1
     . rw [h2 (by omega)];exact c3
     . rw [qaj hk1];simp
 . rcases I.qs q hq with c | ⟨k,y,c1,c2,c3,c4,c5⟩
   . exact Or.inl c
   . obtain ⟨s,h1,-⟩:=hat k y c2;exact Or.inr ⟨k,_,c1,h1,c3,c4,c5⟩
theorem Inv.copied{h:Hp}{x:Wk}(I:Inv h x){a:Int}(ha:a∈zag h)(hq:¬a∈x.queue)(ht:okT (evWd x a).toNat=false)(hpr:zeC x (evI x a)=false)(hbig:zgf x a=false)(hpl:plB x (evN x a)=true):
 Inv h (zbq x a)/\Later x (zbq x a):=by
 obtain ⟨c1,c2,c3,c4,c5,c6,c7,c8,c9⟩:=I.conf;obtain ⟨i,j,g,b⟩:=zas ha;have hbp:=b.pos;have hbw:=b.wl;have hwl:=I.wl;have e0:evWd x a=zaq h.words a:=(I.un a ha).elim id (fun c=>by rw [ht]at c;exact absurd c.1 (by decide))
 obtain ⟨e1,e2,e3,-⟩:=zl6 ha e0;have hoi:evI x a=i:=by unfold evI;rw [I.pw,I.np];exact b.oi
 obtain ⟨y,f1,f2,f3⟩:=I.pg i g b.pg (I.begun b);have hk1:g.kind=1:=by
  rcases b.kd with ⟨k,-⟩ | ⟨k,-⟩
  . exact k
  . unfold zgf at hbig;rw [hoi,qac,zao f1]at hbig;have:=qa3 hbig
    omega
 have hn:evN x a<=h.pw:=by
  rcases b.kd with ⟨k,l,m⟩ | ⟨k,-⟩ <;> omega
 have hn0:1<=evN x a:=by omega
 obtain ⟨J,u,g0,g1,hA,hu0,hun,hJ,hg0,hk0,hoth,hg1,hk11,hu1,hplen,hJt,htk,htl,hru⟩:=I.place hn0 hn hpl;obtain ⟨N,hN⟩:∃ N,evN x a=N:=⟨_,rfl⟩
 obtain ⟨T,hT⟩:∃ T,plA x N=T:=⟨_,rfl⟩
 rw [hN]at hA hn hn0 hun hoth hg1 hu1 hplen hJt htk htl e2 hpl;rw [hT]at hA;have hpp:=zaR (p:=(J:Int)) (zam I.ok).1 (by omega) hJ
 have hfree:=zbP b hg0 hk0;have ka:okA x.h.words.length T N.toNat=true:=zav.2 (by omega)
 have kb:okA x.h.words.length a N.toNat=true:=zav.2 (by omega)
 have kc:okA (zdw x.h.words T a N).length a [fwdV T].length=true:=by rw [zlv (by omega) ka kb];exact zav.2 (by simp only [qbL];omega)
 have hW:(zbq x a).h.words=zaC (zdw x.h.words T a N) a [fwdV T]:=by
  show zkB x a=_
  unfold zkB;rw [hN,hT]
 have hQ:(zbq x a).queue=x.queue++[T]:=by show x.queue++[plA x (evN x a)]=_;rw [hN,hT]
 have hP:(zbq x a).h.pages=(plW x N).h.pages:=by show (plW x (evN x a)).h.pages=_;rw [hN]
 have hTk:(zbq x a).taken=(plW x N).taken:=by show (plW x (evN x a)).taken=_;rw [hN]
 have hpw:(zbq x a).h.pw=h.pw:=I.pw
 have hself:evWd (zbq x a) a=fwdV T:=by unfold evWd;rw [hW];exact zim kc
 have hout:∀ p,p≠a->(p<T\/T+N<=p)->evWd (zbq x a) p=evWd x p:=fun p h1 h2=>by
  unfold evWd;rw [hW,zbI kc (by simp only [qbL];omega)]
  exact zin (by omega) ka kb (by omega)
 have hnew:evWd (zbq x a) T=evWd x a:=by
  unfold evWd;rw [hW,zbI kc (by simp only [qbL];omega)]
  have:=zkt (k:=0) (by omega) ka kb (qb6 _) (by omega)
  simpa using this
 have hold:∀ c∈zag h,c≠a->evWd (zbq x a) c=evWd x c:=fun c hc hne=>by
  obtain ⟨i3,j3,g3,b3⟩:=zas hc;have h1:=zbP b3 hg0 hk0;have h2:=b3.pos;exact hout c hne (by omega)
 have hbelow:∀ q,zb7 x q->q+evN x q<=T\/T+N<=q:=fun q hc=>by
  have hc2:=hc;obtain ⟨k,y2,d1,d2,d3,d4,d5⟩:=hc;obtain ⟨k3,y0,y3,l0,l1,l2,l3,l4,l5,l6⟩:=I.tk _ d1;obtain rfl:k=k3:=by omega
  rw [d2]at l3;injection l3 with l3
  subst l3;rw [I.pw]at d3 d5;by_cases hkJ:k=J
  . subst hkJ;obtain ⟨g5,m1,m2⟩:=hru d1;rw [d2]at m1;injection m1 with m1
    subst m1;left;omega
  . by_cases hlt:k<J
    . left
      have:((k:Int)+1)*h.pw<=(J:Int)*h.pw:=qaV (by omega) (by omega)
      rw [qbg,qbk]at this;omega
    . right
      have:((J:Int)+1)*h.pw<=(k:Int)*h.pw:=qaV (by omega) (by omega)
      rw [qbg,qbk]at this;omega
 have hcopy:∀ q,zb7 x q->evWd (zbq x a) q=evWd x q/\q≠a/\q≠T:=fun q hc=>by
  have h1:=hbelow q hc;obtain ⟨k,y0,l1,l2,l3,l4,l5,l6,l7⟩:=I.copy hc;have h2:=I.old_copy ha hc;have hne:q≠a:=by omega
  exact ⟨hout q hne (by omega),hne,by omega⟩
 have hcopyN:∀ q,zb7 x q->evN (zbq x a) q=evN x q:=fun q hc=>by unfold evN;rw [(hcopy q hc).1]
 have hqd:∀ q∈x.queue,evWd (zbq x a) q=evWd x q:=fun q h1=>by
  rcases I.qs q h1 with h2 | h2
  . exact hold q h2 (fun e=>hq (by rw [<-e];exact h1))
  . exact (hcopy q h2).1
 have hcc:∀ q,zb7 x q->zb7 (zbq x a) q:=fun q hc=>by
  have h9:=hcopyN q hc;have h8:=(hcopy q hc).1;have hc2:=hc;obtain ⟨k,y2,d1,d2,d3,d4,d5⟩:=hc;by_cases hkJ:k=J
  . subst hkJ;obtain ⟨g5,m1,m2⟩:=hru d1;rw [d2]at m1;injection m1 with m1
    subst m1;refine ⟨k,g1,by rw [hTk];exact hJt,by rw [hP];exact hg1,by rw [hpw];rw [I.pw]at d3;exact d3,by rw [h8];exact d4,?_⟩
    rw [h9,hpw];rw [I.pw]at d5;omega
  . refine ⟨k,y2,by rw [hTk];exact (htk _).2 (Or.inl d1),by rw [hP,hoth k hkJ];exact d2,by rw [hpw];rw [I.pw]at d3;exact d3,by rw [h8];exact d4,?_⟩
    rw [h9,hpw];rw [I.pw]at d5;exact d5
 have hback:∀ q∈x.queue,zb7 (zbq x a) q->zb7 x q:=fun q h1 hc=>by
  rcases I.qs q h1 with h2 | h2
  . exfalso
    obtain ⟨k,y2,d1,d2,d3,d4,d5⟩:=hc;obtain ⟨i3,j3,g3,b3⟩:=zas h2;have hb3:=b3.pos;rw [hpw]at d3 d5;have hge:1<=evN (zbq x a) q:=by have:=(zvd d4).1;omega
    rw [hTk]at d1;rw [hP]at d2;rcases (htk _).1 d1 with d1 | d1
    . obtain ⟨k3,y0,y3,l0,l1,l2,l3,l4,l5,l6⟩:=I.tk _ d1;obtain rfl:k=k3:=by omega
      have h6:=zbP b3 l1 l2;have hul:y2.used<=h.pw:=by
       by_cases hkJ:k=J
       . subst hkJ;rw [hg1]at d2;injection d2 with d2;subst d2;omega
       . rw [hoth k hkJ,l3]at d2;injection d2 with d2;subst d2;exact l6
      omega
    . obtain rfl:k=J:=by omega
      have h6:=zbP b3 hg0 hk0;rw [hg1]at d2;injection d2 with d2;subst d2
      omega
  . exact h2
 have hTN:evN (zbq x a) T=N:=by unfold evN;rw [hnew];exact hN
 refine ⟨⟨I.ok,I.pw,I.np,I.sp,I.old,?_,?_,fun t h1=>?_,fun k g5 h1 h2=>?_,?_,fun c hc=>?_,fun q h1=>?_,fun q h1 r h2 cq cr hne=>?_,?_⟩,⟨rfl,⟨[T],hQ⟩,hqd⟩⟩
 . rw [hW,zer kc,zlv (by omega) ka kb];exact hwl
 . rw [hP,hplen];exact I.pl
 . rw [hTk]at h1;rw [hP];by_cases hkJ:t=J
   . exact ⟨J,g0,g1,hkJ,hg0,hk0,hg1,hk11,by omega,by omega⟩
   . obtain ⟨k3,y0,y3,l0,l1,l2,l3,l4,l5,l6⟩:=I.tk _ (((htk t).1 h1).resolve_right hkJ);exact ⟨k3,y0,y3,l0,l1,l2,by rw [hoth k3 (by omega)];exact l3,l4,l5,l6⟩
 . rw [hTk]at h2;rw [hP];have hnt:¬(k:Int)∈x.taken:=fun h3=>h2 ((htk _).2 (Or.inl h3))
   have hkJ:k≠J:=fun e=>h2 ((htk _).2 (Or.inr (by rw [e])))
   obtain ⟨y5,l1,l2,l3⟩:=I.pg k g5 h1 hnt;exact ⟨y5,by rw [hoth k hkJ];exact l1,l2,l3⟩
 . rw [hTk,hP];exact htl
 . have hstab:∀ i5 j5 g5,Begins h c i5 j5 g5->zeC (zbq x a) i5=zeC x i5:=fun i5 j5 g5 b5=>by
    have hnt:=I.begun b5;have hkJ:i5≠J:=fun e=>by
     subst e;have:=b5.pg
     rw [hg0]at this;injection this with this
     subst this;rcases b5.kd with ⟨k,-⟩ | ⟨k,-⟩ <;> omega
    refine zvF (by rw [hP];exact hoth i5 hkJ) rfl ?_
    rw [hTk,htk];constructor
    . rintro (h | h)
      . exact h
      . omega
    . exact Or.inl
   obtain ⟨i5,j5,g5,b5⟩:=zas hc;by_cases hca:c=a
   . subst hca;right
     refine ⟨by rw [hself];exact zs0 (by omega) (by omega),fun h1=>?_,?_⟩
     . rw [hQ]at h1;rcases qaq.1 h1 with h1 | h1
       . exact hq h1
       . have:=qa0.1 h1;omega
     . rw [b5.oi,hstab _ _ _ b5];have:evI x c=i5:=by unfold evI;rw [I.pw,I.np];exact b5.oi
       rw [<-this];exact hpr
   . rw [hold c hc hca];rcases I.un c hc with h1 | ⟨h1,h2,h3⟩
     . exact Or.inl h1
     . refine Or.inr ⟨h1,fun h4=>?_,by rw [b5.oi]at h3 ⊢;rw [hstab _ _ _ b5];exact h3⟩
       rw [hQ]at h4;rcases qaq.1 h4 with h4 | h4
       . exact h2 h4
       . have h5:=qa0.1 h4;have h6:=zbP b5 hg0 hk0;have h7:=b5.pos;omega
 . rw [hQ]at h1;rcases qaq.1 h1 with h1 | h1
   . rcases I.qs q h1 with h2 | h2
     . exact Or.inl h2
     . exact Or.inr (hcc q h2)
   . have h5:=qa0.1 h1;subst h5;refine Or.inr ⟨J,g1,by rw [hTk];exact hJt,by rw [hP];exact hg1,by rw [hpw];omega,by rw [hnew];exact e1,?_⟩
     rw [hTN,hpw];omega
 . rw [hQ]at h1 h2;rcases qaq.1 h1 with m1 | m1 <;> rcases qaq.1 h2 with m2 | m2
   . have cq2:=hback q m1 cq;have cr2:=hback r m2 cr;rw [hcopyN q cq2,hcopyN r cr2];exact I.dj q m1 r m2 cq2 cr2 hne
   . have h5:=qa0.1 m2;have cq2:=hback q m1 cq;rw [h5,hcopyN q cq2,hTN];exact hbelow q cq2
   . have h5:=qa0.1 m1;have cr2:=hback r m2 cr;rw [h5,hcopyN r cr2,hTN];exact (hbelow r cr2).symm
   . exact absurd ((qa0.1 m1).trans (qa0.1 m2).symm) hne
 . have h1:((zag h).filter (zcp (zbq x a))).length+1<=((zag h).filter (zcp x)).length:=by
    refine zhu (c:=a) (fun c hc hu=>?_) ha ?_ ?_
    . unfold zcp at hu ⊢
      by_cases hca:c=a
      . subst hca;rw [hself,zs0 (by omega) (by omega)]at hu
        simp at hu
      . rw [hold c hc hca]at hu;simp only [qae,qab]at hu ⊢;exact ⟨fun h2=>hu.1 (by rw [hQ];exact qaJ _ h2),hu.2⟩
    . unfold zcp;simp [hq,ht]
    . unfold zcp;rw [hself,zs0 (by omega) (by omega)];simp
   have h2:(zbq x a).queue.length=x.queue.length+1:=by rw [hQ];simp
   have:=I.cnt
   omega
theorem Inv.forward{h:Hp}{x:Wk}(I:Inv h x){a:Int}(he:evE x a=0):Inv h (evW x a)/\Later x (evW x a):=by
 unfold evE at he;unfold evW;by_cases h0:a=0\/a∈x.queue
 . have hc:evC x a=0:=by unfold evC;rw [if_pos h0]
   rw [hc];exact ⟨I,Later.refl x⟩
 have hq:¬a∈x.queue:=fun c=>h0 (Or.inr c)
 by_cases ho:¬a∈x.old
 . have hc:evC x a=1:=by unfold evC;rw [if_neg h0,if_pos ho]
   rw [hc]at he;exact absurd he (by decide)
 replace ho:a∈x.old:=Classical.not_not.1 ho
 have ho2:a∈zag h:=by rw [<-I.old];exact ho
 by_cases ht:okT (evWd x a).toNat=true
 . have hc:evC x a=2:=by unfold evC;rw [if_neg h0,if_neg (by simpa using ho),if_pos ht]
   rw [hc];exact ⟨I,Later.refl x⟩
 replace ht:okT (evWd x a).toNat=false:=by simpa using ht
 by_cases h3:¬ofE x.h.pw x.h.np a=0\/(x.h.pages.length:Int)<=evI x a
 . have hc:evC x a=3:=by unfold evC;rw [if_neg h0,if_neg (by simpa using ho),if_neg (by simp [ht]),if_pos h3]
   rw [hc]at he;exact absurd he (by decide)
 cases hpr:zeC x (evI x a) with
 | true=>
  have hc:evC x a=4:=by unfold evC;rw [if_neg h0,if_neg (by simpa using ho),if_neg (by simp [ht]),if_neg h3,if_pos hpr]
  rw [hc];exact I.keep ho2 hq ht
 | false=>
  cases hbig:zgf x a with
  | true=>
   have hc:evC x a=5:=by unfold evC;rw [if_neg h0,if_neg (by simpa using ho),if_neg (by simp [ht]),if_neg h3,if_neg (by simp [hpr]),if_pos hbig]
   rw [hc];obtain ⟨i,j,g,b⟩:=zas ho2;have hoi:evI x a=i:=by unfold evI;rw [I.pw,I.np];exact b.oi
   obtain ⟨y,f1,f2,f3⟩:=I.pg i g b.pg (I.begun b);have hk:y.kind=2:=by
    unfold zgf at hbig;rw [hoi,qac,zao f1]at hbig;exact qat hbig
   rw [hoi,qac];obtain ⟨I2,L2,e1,e2⟩:=I.large f1 hk;obtain ⟨I3,L3⟩:=I2.keep ho2 (by rw [e2];exact hq) (by rw [e1];exact ht)
   exact ⟨I3,L2.trans L3⟩
  | false=>
   cases hpp:plB x (evN x a) with
   | true=>
    have hc:evC x a=7:=by unfold evC;rw [if_neg h0,if_neg (by simpa using ho),if_neg (by simp [ht]),if_neg h3,if_neg (by simp [hpr]),if_neg (by simp [hbig]),if_pos hpp]
    rw [hc];exact I.copied ho2 hq ht hpr hbig hpp
   | false=>
    have hc:evC x a=6:=by unfold evC;rw [if_neg h0,if_neg (by simpa using ho),if_neg (by simp [ht]),if_neg h3,if_neg (by simp [hpr]),if_neg (by simp [hbig]),if_neg (by simp [hpp])]
    rw [hc]at he;exact absurd he (by decide)
def za9:Wk->List Int->List Int->Wk×List Int×Int
 | x,acc,[]=>(x,acc,0)
 | x,acc,r::rs=>if evE x r=0 then za9 (evW x r) (acc++[evA x r]) rs else (Wk.zero,[],evE x r)
def zqB:Wk->List Int->Prop
 | _,[]=>True
 | x,r::rs=>FwOK x/\(0<=r/\r<18446744073709551616)/\(evE x r=0->zqB (evW x r) rs)
def zbx(h:Hp):Wk:=⟨{ h with pages:=h.pages.map fun g=>if g.kind=1/\0<g.pins then ⟨g.kind,1-h.space,g.used,g.pins⟩ else g },zag h,[],[],0,0,0,0,0,0,0⟩
def zrV(x:Wk)(a:Int):Bool:=zeC x (ofI x.h.pw x.h.np a) && !decide (a∈x.queue)
def znY(x:Wk)(a:Int):List Int:=encV 0 (evH x a).n 0::List.replicate (evH x a).n.toNat 0
def zaw(x:Wk)(a:Int):Wk:=if zrV x a then { x with h:={ x.h with words:=zaC x.h.words a (znY x a) },r2:=wrap64 (x.r2+1) } else x
def zcX(x:Wk):Wk:=x.old.foldl zaw x
theorem zrW{x y:Wk}(L:Later x y){q:Int}(hq:q∈x.queue):evH y q=evH x q:=by
 unfold evH;rw [L.hd q hq]
theorem st_ok{h:Hp}{A:Int}:∀ (l:List Int) (x:Wk),Inv h x->A∈x.queue->(∀ i∈l,0<=i/\i<(evH x A).n)->StOK x A l/\((stGo x A l).2=0->Inv h (stGo x A l).1/\Later x (stGo x A l).1)
 | [],x,I,hA,_=>⟨trivial,fun _=>⟨I,Later.refl x⟩⟩
 | i::r,x,I,hA,hl=>by
  obtain ⟨h0,h1⟩:=hl i (qbi ..);have key:evE x (zaq x.h.words (A+1+i))=0->Inv h (zdp x (A+1+i))/\Later x (zdp x (A+1+i)):=fun he=>by
   obtain ⟨I2,L2⟩:=I.forward he;have hA2:=L2.mem hA;obtain ⟨k1,k2,k3⟩:=I2.inside hA2 h0 (by rw [zrW L2 hA];exact h1)
   obtain ⟨I3,L3⟩:=I2.write (v:=evA x (zaq x.h.words (A+1+i))) k1 k2 k3
   exact ⟨I3,L2.trans L3⟩
  have hrec:∀ he:evE x (zaq x.h.words (A+1+i))=0,StOK (zdp x (A+1+i)) A r/\((stGo (zdp x (A+1+i)) A r).2=0->Inv h (stGo (zdp x (A+1+i)) A r).1/\Later (zdp x (A+1+i)) (stGo (zdp x (A+1+i)) A r).1):=fun he=>by
   obtain ⟨I3,L3⟩:=key he;exact st_ok r _ I3 (L3.mem hA) (fun j hj=>by rw [zrW L3 hA];exact hl j (qaD _ hj))
  refine ⟨⟨I.fwok,fun he=>(hrec he).1⟩,fun hz=>?_⟩
  rw [stGo]at hz ⊢
  by_cases he:evE x (zaq x.h.words (A+1+i))=0
  . rw [if_pos he]at hz ⊢
    obtain ⟨I4,L4⟩:=(hrec he).2 hz;exact ⟨I4,(key he).2.trans L4⟩
  . rw [if_neg he]at hz;exact absurd hz he
theorem stL_in{x:Wk}{A i:Int}(hi:i∈stL x A):0<=i/\i<(evH x A).n:=by
 have h:=zqR hi;unfold ptrB at h;simp only [qae,qab]at h;exact ⟨h.1.1.2,h.1.2⟩
theorem Inv.queue_bd{h:Hp}{x:Wk}(I:Inv h x){A:Int}(hA:A∈x.queue):4096<=A/\A<=9000:=by
 rcases I.qs A hA with c | c
 . have:=ztT (zce c).1;omega
 . obtain ⟨k,g0,f1,f2,f3,f4,f5,f6,f7⟩:=I.copy c;have h1:=I.conf;have h2:=zaR (p:=(k:Int)) (zam I.ok).1 (by omega) f3
   omega
theorem Inv.reports{h:Hp}{x:Wk}(I:Inv h x)(s a b c d e f:Int):Inv h { x with sc:=s,r0:=a,r1:=b,r2:=c,r3:=d,r4:=e,r5:=f } :=
 ⟨I.ok,I.pw,I.np,I.sp,I.old,I.wl,I.pl,I.tk,I.pg,I.tl,I.un,I.qs,I.dj,I.cnt⟩
theorem zx8{h:Hp}:∀ (f:Nat) (x:Wk) (k:Nat),Inv h x->x.sc=k->k<=x.queue.length->(zag h).length+1<=k+f->zyi f x/\((allV f x).2=0->Inv h (allV f x).1)
 | 0,x,k,I,hk,hq,hf=>by have:=I.qlen;omega
 | f+1,x,k,I,hk,hq,hf=>by
  have hql:=I.qlen;cases hA:x.queue[k]? with
  | none=>
   refine ⟨⟨k,hk,by omega,Or.inl hA⟩,fun _=>?_⟩
   rw [zvo hk hA];exact I
  | some A=>
   have hAm:=qba hA;have hkl:=(qar.1 hA).1;have hbd:=I.queue_bd hAm;obtain ⟨s1,s2⟩:=st_ok (stL x A) x I hAm (fun i hi=>stL_in hi)
   have key:stE x A=0->Inv h (stW x A)/\(stW x A).sc=((k+1:Nat):Int)/\k+1<=(stW x A).queue.length:=fun he=>by
    obtain ⟨I2,L2⟩:=s2 he;refine ⟨I2.reports _ _ _ _ _ _ _,?_,?_⟩
    . show wrap64 ((stGo x A (stL x A)).1.sc+1)=_
      rw [L2.sc,hk];unfold wrap64;omega
    . show k+1<=(stGo x A (stL x A)).1.queue.length
      obtain ⟨l,e⟩:=L2.qu;rw [e,qaE];omega
   have hrec:=fun he:stE x A=0=>zx8 f (stW x A) (k+1) (key he).1 (key he).2.1 (key he).2.2 (by omega)
   refine ⟨⟨k,hk,by omega,Or.inr ⟨A,hA,by omega,by omega,I.fwok.wl,s1,fun he=>⟨(key he).2.1,(hrec he).1⟩⟩⟩,fun hz=>?_⟩
   rw [zx9 hk hA]at hz ⊢
   by_cases he:stE x A=0
   . rw [if_pos he]at hz ⊢;exact (hrec he).2 hz
   . rw [if_neg he]at hz;exact absurd hz he
theorem zpb{h:Hp}:∀ (rs:List Int) (x:Wk) (acc:List Int),Inv h x->(∀ r∈rs,0<=r/\r<18446744073709551616)->zqB x rs/\((za9 x acc rs).2.2=0->Inv h (za9 x acc rs).1/\Later x (za9 x acc rs).1/\(za9 x acc rs).2.1.length=acc.length+rs.length)
 | [],x,acc,I,_=>⟨trivial,fun _=>⟨I,Later.refl x,rfl⟩⟩
 | r::rs,x,acc,I,hl=>by
  have hrec:∀ he:evE x r=0,_:=fun he=>zpb rs (evW x r) (acc++[evA x r]) (I.forward he).1 (fun q hq=>hl q (qaD _ hq))
  refine ⟨⟨I.fwok,hl r (qbi ..),fun he=>(hrec he).1⟩,fun hz=>?_⟩
  rw [za9]at hz ⊢
  by_cases he:evE x r=0
  . rw [if_pos he]at hz ⊢
    obtain ⟨I2,L2,e2⟩:=(hrec he).2 hz;refine ⟨I2,(I.forward he).2.trans L2,?_⟩;rw [e2];simp only [qaE,qaF,qby];omega
  . rw [if_neg he]at hz;exact absurd hz he
theorem zgk{h:Hp}(h1:okH h=true):Inv h (zbx h):=by
 refine ⟨h1,rfl,rfl,rfl,rfl,rfl,by show (List.map _ _).length=_;rw [qai],fun t ht=>(by cases ht),fun k g0 hg hn=>?_,qbh _,fun a ha=>Or.inl rfl,fun q hq=>(by cases hq),fun q hq=>(by cases hq),?_⟩
 . refine ⟨if g0.kind=1/\0<g0.pins then ⟨g0.kind,1-h.space,g0.used,g0.pins⟩ else g0,?_,?_,?_⟩
   . show (List.map _ _)[k]?=_;rw [qbd,hg];rfl
   . split <;> rfl
   . split <;> rfl
 . show 0+_<=_
   have:=qbN (zcp (zbx h)) (zag h)
   omega
theorem zkx(x:Wk)(a:Int):(zaw x a).h.pw=x.h.pw/\(zaw x a).h.np=x.h.np/\(zaw x a).h.pages=x.h.pages/\(zaw x a).h.space=x.h.space/\(zaw x a).taken=x.taken/\(zaw x a).queue=x.queue/\(zaw x a).old=x.old/\(zaw x a).h.bump=x.h.bump:=by
 unfold zaw;split <;> exact ⟨rfl,rfl,rfl,rfl,rfl,rfl,rfl,rfl⟩
theorem zxX(x:Wk)(a b:Int):zrV (zaw x a) b=zrV x b:=by
 obtain ⟨e1,e2,e3,e4,e5,e6,-,-⟩:=zkx x a;unfold zrV zeC;rw [e1,e2,e3,e4,e5,e6]
theorem zp1{h:Hp}:∀ (l:List Int) (x:Wk),l.Pairwise (fun a b=>a+osz h a<=b)->(∀ a∈l,a∈zag h)->x.h.words.length=h.words.length->(∀ a∈l,zrV x a=true->evWd x a=zaq h.words a)->(l.foldl zaw x).h.words.length=h.words.length
 | [],x,_,_,e,_=>e
 | a::l,x,hp,hm,e,hev=>by
  obtain ⟨p1,p2⟩:=List.pairwise_cons.1 hp;rw [qca];by_cases hb:zrV x a=true
  . have h1:=hev a (qbi ..) hb;have ha:=hm a (qbi ..);obtain ⟨e1,e2,e3,-⟩:=zl6 ha h1;obtain ⟨i,j,g,b⟩:=zas ha;have hpos:=b.pos;have hwl:=b.wl;have hln:((znY x a).length:Int)=osz h a:=by unfold znY;rw [qaF,qbb];omega
    have hok:okA x.h.words.length a (znY x a).length=true:=zav.2 (by omega)
    have hW:(zaw x a).h.words=zaC x.h.words a (znY x a):=by unfold zaw;rw [if_pos hb]
    refine zp1 l _ p2 (fun c hc=>hm c (qaD _ hc)) (by rw [hW,zer hok];exact e) (fun c hc hf=>?_)
    rw [zxX]at hf;have h2:=hev c (qaD _ hc) hf;have h3:=p1 c hc;rw [<-h2];unfold evWd;rw [hW,zbI hok (by omega)]
  . have hW:zaw x a=x:=by unfold zaw;rw [if_neg hb]
    rw [hW];exact zp1 l x p2 (fun c hc=>hm c (qaD _ hc)) e (fun c hc hf=>hev c (qaD _ hc) hf)
theorem Inv.fill{h:Hp}{x:Wk}(I:Inv h x):(zcX x).h.words.length=h.words.length:=by
 unfold zcX;rw [I.old];refine zp1 _ x (zee h) (fun a ha=>ha) I.wl (fun a ha hf=>?_)
 unfold zrV at hf;simp only [qae,qao,qag]at hf;rcases I.un a ha with c | ⟨-,-,c3⟩
 . exact c
 . rw [I.pw,I.np]at hf;rw [c3]at hf;exact absurd hf.1 (by decide)
structure Wd where
 h:Hp
 st:List Int
 wk:List Int
def bgB(h:Hp)(k:Nat):Bool:=decide ((h.pages.getD k Pg.zero).kind=1)&&decide (0<(h.pages.getD k Pg.zero).pins)
def bgPs(h:Hp):Nat->List Pg
 | 0=>h.pages
 | k+1=>if bgB h k then (bgPs h k).set k ⟨(h.pages.getD k Pg.zero).kind,1-h.space,(h.pages.getD k Pg.zero).used,(h.pages.getD k Pg.zero).pins⟩ else bgPs h k
theorem ziE(h:Hp):∀ k,(bgPs h k).length=h.pages.length
 | 0=>rfl
 | k+1=>by rw [bgPs];split <;> simp [ziE h k]
theorem zqe(h:Hp):∀ (k j:Nat) (g:Pg),h.pages[j]?=some g->(bgPs h k)[j]?=some (if j<k/\g.kind=1/\0<g.pins then ⟨g.kind,1-h.space,g.used,g.pins⟩ else g)
 | 0,j,g,hg=>by rw [if_neg (by omega)];exact hg
 | k+1,j,g,hg=>by
  have ih:=zqe h k j g hg;have hj:=(qar.1 hg).1;rw [bgPs];by_cases hb:bgB h k=true
  . rw [if_pos hb,qaZ,ziE];unfold bgB at hb;simp only [qae,qab]at hb;by_cases e:k=j
    . subst e;rw [zao hg]at hb ⊢
      rw [if_pos rfl,if_pos hj,if_pos ⟨by omega,hb.1,hb.2⟩]
    . rw [if_neg e,ih];by_cases c:j<k/\g.kind=1/\0<g.pins
      . rw [if_pos c,if_pos ⟨by omega,c.2⟩]
      . rw [if_neg c,if_neg (fun c2=>c ⟨by omega,c2.2⟩)]
  . rw [if_neg hb,ih];by_cases c:j<k/\g.kind=1/\0<g.pins
    . rw [if_pos c,if_pos ⟨by omega,c.2⟩]
    . rw [if_neg c,if_neg];rintro ⟨c1,c2⟩;by_cases e:j=k
      . subst e;apply hb
        unfold bgB;rw [zao hg];simp [c2]
      . exact c ⟨by omega,c2⟩
theorem zvm(h:Hp):bgPs h h.pages.length=(zbx h).h.pages:=by
 apply qbt
 intro j;show _=(List.map _ h.pages)[j]?
 rw [qbd];cases hg:h.pages[j]? with
 | none=>
  have:(bgPs h h.pages.length)[j]?=none:=by
   rw [qcI,ziE];exact qcI.1 hg
  rw [this];rfl
 | some g=>
  rw [zqe h _ j g hg];have hj:=(qar.1 hg).1;simp only [qbF];by_cases c:g.kind=1/\0<g.pins
  . rw [if_pos ⟨hj,c⟩,if_pos c]
  . rw [if_neg (fun c2=>c c2.2),if_neg c]
def zmG(x:Wk)(k:Nat):Wk:=(x.old.take k).foldl zaw x
theorem ztI{x:Wk}{k:Nat}{a:Int}(h:x.old[k]?=some a):zmG x (k+1)=zaw (zmG x k) a:=by
 unfold zmG;rw [zbc h,List.foldl_append];rfl
theorem zmB:∀ (l:List Int) (x:Wk),(l.foldl zaw x).h.pw=x.h.pw/\(l.foldl zaw x).h.np=x.h.np/\(l.foldl zaw x).h.pages=x.h.pages/\(l.foldl zaw x).h.space=x.h.space/\(l.foldl zaw x).taken=x.taken/\(l.foldl zaw x).queue=x.queue/\(l.foldl zaw x).old=x.old/\(l.foldl zaw x).h.bump=x.h.bump
 | [],x=>⟨rfl,rfl,rfl,rfl,rfl,rfl,rfl,rfl⟩
 | a::l,x=>by
  obtain ⟨e1,e2,e3,e4,e5,e6,e7,e8⟩:=zmB l (zaw x a);have h:(zaw x a).h.pw=x.h.pw/\(zaw x a).h.np=x.h.np/\(zaw x a).h.pages=x.h.pages/\(zaw x a).h.space=x.h.space/\(zaw x a).taken=x.taken/\(zaw x a).queue=x.queue/\(zaw x a).old=x.old/\(zaw x a).h.bump=x.h.bump:=by
   unfold zaw;split <;> exact ⟨rfl,rfl,rfl,rfl,rfl,rfl,rfl,rfl⟩
  obtain ⟨f1,f2,f3,f4,f5,f6,f7,f8⟩:=h;exact ⟨e1.trans f1,e2.trans f2,e3.trans f3,e4.trans f4,e5.trans f5,e6.trans f6,e7.trans f7,e8.trans f8⟩
theorem zwK(xs:List Int)(a:Int)(l:List Int):(zaC xs a l).length<=xs.length:=by
 unfold zaC;split
 . rename_i hk;have h1:=qat hk;rw [zcQ (by omega)];exact qan _
 . exact qbh _
theorem encV_wb(n:Int):0<=encV 0 n 0/\encV 0 n 0<18446744073709551616:=by
 unfold encV;split
 . rename_i h;have:=zsH h (qb6 0)
   omega
 . omega
def frB(x:Wk)(k:Nat):Bool:=!decide ((x.h.pages.getD k Pg.zero).kind=0)&&decide ((x.h.pages.getD k Pg.zero).space=x.h.space)
def frPs(x:Wk):Nat->List Pg
 | 0=>x.h.pages
 | k+1=>if frB x k then (frPs x k).set k Pg.zero else frPs x k
def frWs(x:Wk):Nat->List Int
 | 0=>x.h.words
 | k+1=>if frB x k then splice (frWs x k) (k*x.h.pw.toNat) (List.replicate x.h.pw.toNat 0) else frWs x k
def frR(x:Wk):Nat->Int
 | 0=>x.r3
 | k+1=>if frB x k then wrap64 (frR x k+1) else frR x k
def freeW(x:Wk):Wk:={ x with h:={ x.h with pages:=frPs x x.h.pages.length,words:=frWs x x.h.pages.length },r3:=frR x x.h.pages.length }
theorem zpX(x:Wk):∀ k,(frPs x k).length=x.h.pages.length
 | 0=>rfl
 | k+1=>by rw [frPs];split <;> simp [zpX x k]
theorem ztG(x:Wk):∀ (k j:Nat),k<=j->(frPs x k)[j]?=x.h.pages[j]?
 | 0,_,_=>rfl
 | k+1,j,h=>by
  rw [frPs];split
  . rw [qbX (by omega),ztG x k j (by omega)]
  . exact ztG x k j (by omega)
theorem zoo{k m n:Nat}{pw:Int}(h0:0<=pw)(hk:k<m)(hn:(n:Int)=m*pw):k*pw.toNat+pw.toNat<=n:=by
 obtain ⟨q,rfl⟩:∃ q:Nat,pw=q:=⟨pw.toNat,by omega⟩
 rw [qac];have h1:(k+1)*q<=m*q:=qaR _ (by omega)
 rw [qaL,qa5]at h1;have h2:((m*q:Nat):Int)=n:=by rw [qcp];exact hn.symm
 omega
theorem zpW(x:Wk)(h0:0<=x.h.pw)(hw:(x.h.words.length:Int)=x.h.pages.length*x.h.pw):∀ k,k<=x.h.pages.length->(frWs x k).length=x.h.words.length
 | 0,_=>rfl
 | k+1,hk=>by
  have ih:=zpW x h0 hw k (by omega)
  rw [frWs];split
  . rw [zcQ (by rw [qbb,ih];exact zoo h0 (by omega) hw)];exact ih
  . exact ih
def zoT(x:Wk)(a:Int):Int:=if a∈x.queue then a else tgtV (evWd x a).toNat
def zk4(x:Wk)(a:Int):Int:=if a=0 then 0 else zoT x a
def zeS(x:Wk)(r a:Int):Int:=if a=0 then r else if zoT x a=0 then wrap64 (r+1) else r
def zp7(h:Hp)(st:List Int):Wk×List Int×Int:=za9 (zbx h) [] st
def znZ(h:Hp)(st:List Int):Wk×Int:=allV ((zag h).length+1) (zp7 h st).1
def zcy(h:Hp)(st wk:List Int):Wk:={ (znZ h st).1 with r4:=wk.foldl (zeS (znZ h st).1) (znZ h st).1.r4 }
def ztM(h:Hp)(st wk:List Int):Wk:=freeW (zcX (zcy h st wk))
def zgi(h:Hp)(st wk:List Int):Int:=if okH h then (if zjn h st&&zjn h wk then (if (zp7 h st).2.2=0 then (znZ h st).2 else (zp7 h st).2.2) else 19) else 1
def ztP(h:Hp)(st wk:List Int):Hp:={ (ztM h st wk).h with space:=1-(ztM h st wk).h.space,bump:=((ztM h st wk).taken.getLast?).getD (-1) }
def ztN(h:Hp)(st:List Int):List Int:=(zp7 h st).2.1
def ztO(h:Hp)(st wk:List Int):List Int:=wk.map (zk4 (znZ h st).1)
def putV(x:Wd)(k n m:Int):Wd:=⟨zdq x.h k n m,x.st++[ziG x.h k n m],x.wk⟩
inductive MStep:Wd->Wd->Prop
 | none (x:Wd):MStep x x
 | put (x:Wd) (k n m:Int):1<=k->k<=3->0<=n->n<=100->0<=m->m<4096->zcL x.h k n m=0->MStep x (putV x k n m)
 | link (x:Wd) (a i b:Int):a∈0::(x.st++x.wk)->getE x.h a=0->0<=i->i<(getH x.h a).n->0<=b->b<18446744073709551616->(ptrB (getH x.h a).k (getH x.h a).n (getH x.h a).m i=true->b∈0::(x.st++x.wk))->MStep x { x with h:=setV x.h a i b }
 | pin (x:Wd) (a:Int) (i:Nat) (g:Pg) (p:Int):a∈0::(x.st++x.wk)->ofE x.h.pw x.h.np a=0->ofI x.h.pw x.h.np a=i->x.h.pages[i]?=some g->((0<g.pins/\p=g.pins-1)\/(p=g.pins+1/\(0<g.pins\/g.kind=2\/(zaZ x.h.pages:Int)<x.h.np / 4)))->MStep x { x with h:={ x.h with pages:=x.h.pages.set i ⟨g.kind,g.space,g.used,p⟩ } }
 | drop (x:Wd) (i:Nat) (r:Int) (b:Bool):x.st[i]?=some r->MStep x ⟨x.h,x.st.take i++x.st.drop (i+1),if b then x.wk++[r] else x.wk⟩
 | collect (x:Wd):zgi x.h x.st x.wk=0->MStep x ⟨ztP x.h x.st x.wk,ztN x.h x.st,ztO x.h x.st x.wk⟩
 | dup (x:Wd) (a:Int):a∈0::(x.st++x.wk)->MStep x ⟨x.h,x.st++[a],x.wk⟩
inductive Made:Nat->Wd->Prop
 | empty (pw np:Int):(pw=16\/pw=20\/pw=32)->(np=8\/np=12\/np=16\/np=20\/np=24)->Made 0 ⟨zpL pw np,[],[]⟩
 | step (n:Nat) (x y:Wd):Made n x->MStep x y->Made (n+1) y
theorem mem_u64{st wk:List Int}(h1:WB st)(h2:WB wk){a:Int}(h:a∈0::(st++wk)):0<=a/\a<18446744073709551616:=by
 simp only [qap,qaq]at h;rcases h with rfl | h | h
 . exact ⟨by omega,by omega⟩
 . exact h1 _ h
 . exact h2 _ h
theorem zuQ{pw np a:Int}(h:ofE pw np a=0):confB pw np=true/\0<=ofI pw np a/\ofI pw np a<np:=by
 have h1:confB pw np=true:=by
  cases hv:confB pw np with
  | false=>have:=(zyU (a:=a) hv).2.2;omega
  | true=>rfl
 have h2:inAr pw np a=true:=by
  cases hi:inAr pw np a with
  | false=>have:=(zf3 h1 hi).2.2;omega
  | true=>rfl
 have h3:=zaj h1;refine ⟨h1,zvI h,?_⟩;rw [(zl7 h1 h2).1];unfold inAr at h2;have h4:=qat h2;exact qcl (by omega) (by omega)
structure Lens (n:Nat) (x:Wd):Prop where
 conf:confB x.h.pw x.h.np=true
 words:(x.h.words.length:Int)=x.h.np*x.h.pw
 pages:(x.h.pages.length:Int)=x.h.np
 st:WB x.st
 wk:WB x.wk
 stn:x.st.length<=n
 wkn:x.wk.length<=n
 pins:∀ g∈x.h.pages,0<=g.pins/\g.pins<=n
theorem zv0{h:Hp}{a i:Int}(hg:getE h a=0)(h0:0<=i)(h1:i<(getH h a).n):zky h a i=0/\okA h.words.length (a+1+i) 1=true:=by
 obtain ⟨g1,g2,g3,-,-,g6,-,-,-,-⟩:=ztD hg;obtain ⟨k,j,g,b⟩:=zmS g2;have h2:=b.wl;have h3:osz h a=(atH h a).n+1:=rfl
 rw [g3]at h1;have hk:okA h.words.length (a+1+i) 1=true:=zav.2 ⟨by omega,by omega⟩
 refine ⟨?_,hk⟩;unfold zky;rw [if_pos hg,if_neg (by rw [g3];omega)]
 unfold zgS;rw [if_pos hk]
theorem Lens.up{n:Nat}{x:Wd}(h:Lens n x):Lens (n+1) x :=
 ⟨h.conf,h.words,h.pages,h.st,h.wk,by have:=h.stn;omega,by have:=h.wkn;omega,fun g hg=>by have:=h.pins g hg;omega⟩
theorem zvT{pw np:Int}(h1:pw=16\/pw=20\/pw=32)(h2:np=8\/np=12\/np=16\/np=20\/np=24):Lens 0 ⟨zpL pw np,[],[]⟩:=by
 have hc:confB pw np=true:=conf_mk (by omega)
 have hp:=conf_prod hc;rw [(zts hc).1];refine ⟨hc,?_,?_,WB.nil,WB.nil,qan _,qan _,fun g hg=>?_⟩
 . show ((List.replicate (np*pw).toNat (0:Int)).length:Int)=np*pw
   rw [qbb];omega
 . show ((List.replicate np.toNat Pg.zero).length:Int)=np
   rw [qbb];omega
 . obtain ⟨-,rfl⟩:=List.mem_replicate.1 hg;exact ⟨by decide,by decide⟩
theorem zxI{n:Nat}{x:Wd}(h:Lens n x){a i b:Int}(hg:getE x.h a=0)(h0:0<=i)(h1:i<(getH x.h a).n)(b0:0<=b)(b1:b<18446744073709551616):Lens (n+1) { x with h:=setV x.h a i b }:=by
 obtain ⟨h2,h3⟩:=zv0 hg h0 h1;have e:setV x.h a i b={ x.h with words:=zaC x.h.words (a+1+i) [b] }:=by unfold setV;exact if_pos h2
 rw [e];have hl:(zaC x.h.words (a+1+i) [b]).length=x.h.words.length:=zer (l:=[b]) h3
 refine ⟨h.conf,?_,h.pages,h.st,h.wk,by have:=h.stn;show x.st.length<=_;omega,by have:=h.wkn;show x.wk.length<=_;omega,fun g hg=>by have:=h.pins g hg;omega⟩
 show ((zaC x.h.words (a+1+i) [b]).length:Int)=x.h.np*x.h.pw
 rw [hl];exact h.words
theorem zy2{n:Nat}{x:Wd}(h:Lens n x){i:Nat}{g:Pg}{p:Int}(hg:x.h.pages[i]?=some g)(hp:(0<g.pins/\p=g.pins-1)\/p=g.pins+1):Lens (n+1) { x with h:={ x.h with pages:=x.h.pages.set i ⟨g.kind,g.space,g.used,p⟩ } }:=by
 have h1:=h.pins g (qba hg);refine ⟨h.conf,h.words,?_,h.st,h.wk,by have:=h.stn;show x.st.length<=_;omega,by have:=h.wkn;show x.wk.length<=_;omega,fun f hf=>?_⟩
 . show ((x.h.pages.set i _).length:Int)=x.h.np
   rw [List.length_set];exact h.pages
 . rcases List.mem_or_eq_of_mem_set hf with h2 | rfl
   . have:=h.pins f h2;omega
   . show 0<=p/\p<=((n+1:Nat):Int);omega
theorem zxJ{n:Nat}{x:Wd}(h:Lens n x){i:Nat}{r:Int}(b:Bool)(hr:x.st[i]?=some r):Lens (n+1) ⟨x.h,x.st.take i++x.st.drop (i+1),if b then x.wk++[r] else x.wk⟩:=by
 have hrb:=h.st r (qba hr);refine ⟨h.conf,h.words,h.pages,fun y hy=>?_,fun y hy=>?_,?_,?_,fun g hg=>by have:=h.pins g hg;omega⟩
 . rcases qaq.1 hy with h2 | h2
   . exact h.st y (qcs h2)
   . exact h.st y (qcr h2)
 . cases b with
   | false=>exact h.wk y hy
   | true=>
    rcases qaq.1 hy with h2 | h2
    . exact h.wk y h2
    . rw [qa0.1 h2];exact hrb
 . have:=h.stn
   show (x.st.take i++x.st.drop (i+1)).length<=n+1
   rw [qaE,qau,qaI];omega
 . have:=h.wkn
   cases b with
   | false=>show x.wk.length<=_;omega
   | true=>show (x.wk++[r]).length<=_;rw [qaE];simp;omega
theorem zy3{n:Nat}{x:Wd}(h:Lens n x){a:Int}(ha:a∈0::(x.st++x.wk)):Lens (n+1) ⟨x.h,x.st++[a],x.wk⟩:=by
 have hab:=mem_u64 h.st h.wk ha;refine ⟨h.conf,h.words,h.pages,fun y hy=>?_,h.wk,?_,by have:=h.wkn;show x.wk.length<=_;omega,fun g hg=>by have:=h.pins g hg;omega⟩
 . rcases qaq.1 hy with h2 | h2
   . exact h.st y h2
   . rw [qa0.1 h2];exact hab
 . have:=h.stn
   show (x.st++[a]).length<=_
   rw [qaE];simp;omega
def zvr:Prop:=∀ (n:Nat) (x:Wd) (k l m:Int),n<=400->Made n x->Lens n x->1<=k->k<=3->0<=l->l<=100->0<=m->m<4096->zcL x.h k l m=0->Lens (n+1) (putV x k l m)
def zkP:Prop:=∀ (n:Nat) (x:Wd),n<=400->Made n x->Lens n x->zgi x.h x.st x.wk=0->Lens (n+1) ⟨ztP x.h x.st x.wk,ztN x.h x.st,ztO x.h x.st x.wk⟩
theorem zy4(hP:zvr)(hC:zkP):∀ n x,Made n x->n<=400->Lens n x:=by
 intro n x hm;induction hm with
 | empty pw np h1 h2=>exact fun _=>zvT h1 h2
 | step n x y hm hs ih=>
  intro hn;have h:=ih (by omega)
  cases hs with
  | none=>exact h.up
  | put k l m h1 h2 h3 h4 h5 h6 h7=>exact hP n x k l m (by omega) hm h h1 h2 h3 h4 h5 h6 h7
  | link a i b h1 h2 h3 h4 h5 h6 h7=>exact zxI h h2 h3 h4 h5 h6
  | pin a i g p h1 h2 h3 h4 h5=>exact zy2 h h4 (by rcases h5 with h5 | h5;exact Or.inl h5;exact Or.inr h5.1)
  | drop i r b h1=>exact zxJ h b h1
  | collect h1=>exact hC n x (by omega) hm h h1
  | dup a h1=>exact zy3 h h1
def PinL(B:Int)(ps:List Pg):Prop:=∀ g∈ps,0<=g.pins/\g.pins<=B
theorem PinL.nil(B:Int):PinL B []:=fun g h=>by cases h
theorem PinL.set{B:Int}{ps:List Pg}(h:PinL B ps){g:Pg}(hg:0<=g.pins/\g.pins<=B)(i:Nat):PinL B (ps.set i g):=fun f hf=>by
 rcases List.mem_or_eq_of_mem_set hf with h2 | rfl
 . exact h f h2
 . exact hg
theorem PinL.getD{B:Int}{ps:List Pg}(h:PinL B ps)(hB:0<=B)(i:Nat):0<=(ps.getD i Pg.zero).pins/\(ps.getD i Pg.zero).pins<=B:=by
 rw [qay];cases e:ps[i]? with
 | none=>exact ⟨qb6 _,hB⟩
 | some g=>exact h g (qba e)
theorem PinL.use{B:Int}{ps:List Pg}(h:PinL B ps)(hB:0<=B)(j:Nat)(n:Int):PinL B (zgK ps j n) :=
 h.set (g:=⟨(ps.getD j Pg.zero).kind,(ps.getD j Pg.zero).space,(ps.getD j Pg.zero).used+n,(ps.getD j Pg.zero).pins⟩) (h.getD hB j) j
theorem PinL.puts{B:Int}{b:Pg}(hb:0<=b.pins/\b.pins<=B)(k:Nat)(ps:List Pg)(i:Nat)(h:PinL B ps):PinL B (put ps i k b):=fun g hg=>by
 unfold put at hg;rcases qaq.1 hg with h1 | h1
 . rcases qaq.1 h1 with h2 | h2
   . exact h g (qcs h2)
   . obtain ⟨-,rfl⟩:=List.mem_replicate.1 h2;exact hb
 . exact h g (qcr h1)
theorem PinL.take{B:Int}{ps:List Pg}(h:PinL B ps)(hB:0<=B)(i k:Int){a b:Pg}(ha:a.pins=0)(hb:b.pins=0):PinL B (zhc ps i k a b):=by
 unfold zhc;split
 . split
   . exact (PinL.puts (by rw [hb];omega) _ _ _ h).set (by rw [ha];omega) _
   . exact PinL.nil B
 . exact PinL.nil B
theorem PinL.spc{B:Int}{ps:List Pg}(h:PinL B ps)(i k:Nat)(sp:Int):PinL B (spc ps i k sp):=fun g hg=>by
 obtain ⟨j,hj,rfl⟩:=List.mem_mapIdx.1 hg;have:=h ps[j] (List.getElem_mem hj)
 split <;> exact this
theorem zxe{B:Int}(hB:0<=B){x:Wk}(h:PinL B x.h.pages)(a:Int):PinL B (evW x a).h.pages:=by
 unfold evW;split
 . exact h
 . exact h
 . exact h
 . exact h.spc _ _ _
 . show PinL B (zgK (plPs x (evN x a)) _ _)
   refine PinL.use ?_ hB _ _;unfold plPs;split
   . exact h
   . unfold zb2;split
     . exact h.take hB _ _ rfl rfl
     . exact PinL.nil B
 . exact PinL.nil B
theorem zvH{B:Int}(hB:0<=B){x:Wk}(h:PinL B x.h.pages)(p:Int):PinL B (zdp x p).h.pages:=zxe hB h _
theorem zuI{B:Int}(hB:0<=B):∀ (l:List Int) (x:Wk) (A:Int),PinL B x.h.pages->PinL B (stGo x A l).1.h.pages
 | [],_,_,h=>h
 | i::r,x,A,h=>by
  rw [stGo];split
  . exact zuI hB r _ A (zvH hB h _)
  . exact PinL.nil B
theorem zuJ{B:Int}(hB:0<=B):∀ (f:Nat) (x:Wk),PinL B x.h.pages->PinL B (allV f x).1.h.pages
 | 0,_,h=>h
 | f+1,x,h=>by
  unfold allV;split
  . exact h
  . split
    . exact zuJ hB f _ (zuI hB _ x _ h)
    . exact PinL.nil B
theorem zqZ{B:Int}(hB:0<=B):∀ (rs:List Int) (x:Wk) (acc:List Int),PinL B x.h.pages->PinL B (za9 x acc rs).1.h.pages
 | [],_,_,h=>h
 | r::rs,x,acc,h=>by
  rw [za9];split
  . exact zqZ hB rs _ _ (zxe hB h r)
  . exact PinL.nil B
theorem zxf{B:Int}{h:Hp}(hp:PinL B h.pages):PinL B (zbx h).h.pages:=fun g hg=>by
 obtain ⟨f,hf,rfl⟩:=qav.1 (show g∈List.map _ h.pages from hg)
 have:=hp f hf
 split <;> exact this
theorem zmF:∀ (l:List Int) (x:Wk),(l.foldl zaw x).h.pages=x.h.pages/\(l.foldl zaw x).h.pw=x.h.pw/\(l.foldl zaw x).h.np=x.h.np
 | [],_=>⟨rfl,rfl,rfl⟩
 | a::l,x=>by
  obtain ⟨e1,e2,e3⟩:=zmF l (zaw x a);obtain ⟨f1,f2,f3,-⟩:=zkx x a;exact ⟨e1.trans f3,e2.trans f1,e3.trans f2⟩
theorem zpi{B:Int}(hB:0<=B){x:Wk}(h:PinL B x.h.pages):∀ k,PinL B (frPs x k)
 | 0=>h
 | k+1=>by
  rw [frPs];split
  . exact (zpi hB h k).set ⟨qb6 _,hB⟩ k
  . exact zpi hB h k
theorem zzu(n:Nat):0<=tgtV n/\tgtV n<18446744073709551616:=by
 unfold tgtV;split
 . rename_i h;have:=zq6 h
   omega
 . omega
theorem evA_in{h:Hp}{x:Wk}(I:Inv h x){a:Int}(ha:0<=a/\a<18446744073709551616)(he:evE x a=0):0<=evA x a/\evA x a<18446744073709551616:=by
 have I2:=(I.forward he).1;unfold evA;split
 . exact ha
 . exact zzu _
 . exact ha
 . exact ha
 . rename_i h7;have hq:plA x (evN x a)∈(evW x a).queue:=by
    have e:evW x a=zbq x a:=by unfold evW;rw [h7];rfl
    rw [e];exact qaz _ (qa0.2 rfl)
   have:=I2.queue_bd hq
   omega
 . omega
theorem zuE{h:Hp}:∀ (rs:List Int) (x:Wk) (acc:List Int),Inv h x->WB rs->WB acc->WB (za9 x acc rs).2.1
 | [],_,_,_,_,h=>h
 | r::rs,x,acc,I,hl,ha=>by
  rw [za9];by_cases he:evE x r=0
  . rw [if_pos he];refine zuE rs _ _ (I.forward he).1 (fun q hq=>hl q (qaD _ hq)) (fun q hq=>?_)
    rcases qaq.1 hq with h1 | h1
    . exact ha q h1
    . rw [qa0.1 h1];exact evA_in I (hl r (qbi ..)) he
  . rw [if_neg he];exact WB.nil
theorem zp6:zkP:=by
 intro n x hn hm L hc;have hE:okH x.h=true/\(zp7 x.h x.st).2.2=0/\(znZ x.h x.st).2=0:=by
  unfold zgi at hc;split at hc
  . rename_i h1;split at hc
    . split at hc
      . rename_i h3;exact ⟨h1,h3,hc⟩
      . rename_i h3;exact absurd hc h3
    . exact absurd hc (by decide)
  . exact absurd hc (by decide)
 obtain ⟨h1,h2,h3⟩:=hE;obtain ⟨-,hr⟩:=zpb x.st (zbx x.h) [] (zgk h1) L.st;obtain ⟨I7,L7,e7⟩:=hr h2;have hsc7:(za9 (zbx x.h) [] x.st).1.sc=((0:Nat):Int):=L7.sc
 obtain ⟨-,ha⟩:=zx8 ((zag x.h).length+1) (za9 (zbx x.h) [] x.st).1 0 I7 hsc7 (qbh _) (by omega)
 have I8:Inv x.h (znZ x.h x.st).1:=ha h3;have I9:Inv x.h (zcy x.h x.st x.wk):=I8.reports _ _ _ _ _ _ _;have hB:(0:Int)<=n:=by omega
 have p8:PinL n (znZ x.h x.st).1.h.pages:=zuJ hB _ _ (zqZ hB _ _ _ (zxf L.pins));obtain ⟨f1,f2,f3⟩:=zmF (zcy x.h x.st x.wk).old (zcy x.h x.st x.wk);have hfl:=I9.fill;have hpl:(zcX (zcy x.h x.st x.wk)).h.pages.length=x.h.pages.length:=by
  rw [show (zcX (zcy x.h x.st x.wk)).h.pages=(zcy x.h x.st x.wk).h.pages from f1];exact I9.pl
 have hpw:(zcX (zcy x.h x.st x.wk)).h.pw=x.h.pw:=(show (zcX (zcy x.h x.st x.wk)).h.pw=(zcy x.h x.st x.wk).h.pw from f2).trans I9.pw
 have hnp:(zcX (zcy x.h x.st x.wk)).h.np=x.h.np:=(show (zcX (zcy x.h x.st x.wk)).h.np=(zcy x.h x.st x.wk).h.np from f3).trans I9.np
 have hcf:=zaj L.conf;have hfw:=zpW (zcX (zcy x.h x.st x.wk)) (by rw [hpw];omega) (by rw [hfl,hpl,hpw,L.pages];exact L.words) (zcX (zcy x.h x.st x.wk)).h.pages.length (qan _)
 refine ⟨?_,?_,?_,?_,fun a ha=>?_,?_,?_,?_⟩
 . show confB (zcX (zcy x.h x.st x.wk)).h.pw (zcX (zcy x.h x.st x.wk)).h.np=true
   rw [hpw,hnp];exact L.conf
 . show ((frWs (zcX (zcy x.h x.st x.wk)) (zcX (zcy x.h x.st x.wk)).h.pages.length).length:Int)=(zcX (zcy x.h x.st x.wk)).h.np*(zcX (zcy x.h x.st x.wk)).h.pw
   rw [hfw,hfl,hpw,hnp];exact L.words
 . show ((frPs (zcX (zcy x.h x.st x.wk)) (zcX (zcy x.h x.st x.wk)).h.pages.length).length:Int)=(zcX (zcy x.h x.st x.wk)).h.np
   rw [zpX,hpl,hnp];exact L.pages
 . exact zuE x.st (zbx x.h) [] (zgk h1) L.st WB.nil
 . obtain ⟨b,hb,rfl⟩:=qav.1 ha;have hbb:=L.wk b hb;unfold zk4 zoT;split
   . omega
   . split
     . exact hbb
     . exact zzu _
 . have:=L.stn
   show (za9 (zbx x.h) [] x.st).2.1.length<=_
   rw [e7];simp;omega
 . have:=L.wkn
   show (List.map _ x.wk).length<=_
   rw [qai];omega
 . intro g hg;have:=zpi hB (x:=zcX (zcy x.h x.st x.wk)) (by rw [show (zcX (zcy x.h x.st x.wk)).h.pages=(zcy x.h x.st x.wk).h.pages from f1];exact p8) _ g hg
   omega
theorem zxB{pw n:Int}(h1:16<=pw)(h2:pw<=64)(h3:pw / 4<n)(h4:n<=4*pw):zeO pw n=(n+pw-1) / pw:=by
 have hd:∀ k:Int,(k-1)*pw<n->n<=k*pw->(n+pw-1) / pw=k:=by
  intro k a b;have e1:(k-1)*pw=k*pw-pw:=by rw [Int.sub_mul,qbk]
  have e2:(n+pw-1)=(n+pw-1-k*pw)+k*pw:=by omega
  rw [e2,qcA _ _ (by omega),qcG (by omega) (by omega)];omega
 unfold zeO;rw [if_neg (by omega)]
 split
 . rw [hd 1 (by omega) (by omega)]
 . split
   . rw [hd 2 (by omega) (by omega)]
   . split
     . rw [hd 3 (by omega) (by omega)]
     . rw [hd 4 (by omega) (by omega)]
def zb4(n:Int):Bool:=decide (n=0\/n=1)
def zrQ(x:Pg):Bool:=decide (x.space=0/\x.used=0/\x.pins=0)
def zdg(pw:Int)(x:Pg):Bool:=zb4 x.space&&decide (0<=x.used/\x.used<=pw)&&zfV x.pins
def zcd(pw np:Int)(ps:List Pg):Nat->Int->Bool
 | 0,_=>false
 | m+1,b=>if (ps.getD m Pg.zero).kind=2 then decide (b<zat pw np (ps.getD m Pg.zero).used) else zcd pw np ps m (b+1)
def zg3(pw np:Int)(ps:List Pg)(i:Nat):Bool:=zcd pw np ps i 1
def zet(pw np:Int)(ps:List Pg)(i:Nat)(x:Pg):Bool:=decide (x.used=0/\x.pins=0)&&zg3 pw np ps i
theorem zyZ(pw np n:Int):zat pw np n<=4:=by
 unfold zat zeO;repeat' split
 all_goals omega
def zcv(pw np:Int)(ps:List Pg)(i:Nat)(x:Pg):Bool :=
 zb4 x.space&&decide (1<=zat pw np x.used)&&zfV x.pins&&decide ((i:Int)+zat pw np x.used<=ps.length)&&zbK x.space ((ps.drop (i+1)).take ((zat pw np x.used).toNat-1))
def zbo(pw np:Int)(ps:List Pg)(i:Nat)(x:Pg):Bool :=
 if x.kind=0 then zrQ x else if x.kind=1 then zdg pw x else if x.kind=2 then zcv pw np ps i x else if x.kind=3 then zet pw np ps i x else false
def zaG(pw np:Int)(ps:List Pg):Nat->List Pg->Bool
 | _,[]=>true
 | i,x::r=>zbo pw np ps i x&&zaG pw np ps (i+1) r
def zbs(pw np:Int)(ps:List Pg):Bool:=zaG pw np ps 0 ps
theorem zvy{pw np:Int}{ps:List Pg}{i:Nat}{x:Pg}(h:ps[i]?=some x):zaG pw np ps i (ps.drop i)=(zbo pw np ps i x&&zaG pw np ps (i+1) (ps.drop (i+1))):=by
 obtain ⟨hi,rfl⟩:=qar.1 h;rw [qaT hi,zaG]
theorem zwV{pw np:Int}{ps:List Pg}{i:Nat}(h:ps.length<=i):zaG pw np ps i (ps.drop i)=true:=by
 rw [qbw h,zaG]
def zjp(pw np:Int)(nw:Nat)(ps:List Pg)(sp b:Int):Bool :=
 confB pw np&&decide ((nw:Int)=np*pw)&&decide ((ps.length:Int)=np)&&zb4 sp&&zgj ps b&&zbs pw np ps
theorem zuG{ps:List Pg}{i k:Nat}{x y:Pg}(h:i+k<=ps.length)(h1:1<=k):(put ps i k y).set i x=put (ps.set i x) (i+1) (k-1) y:=by
 have hl:(ps.set i x).length=ps.length:=List.length_set
 apply qbt
 intro j;rw [qaZ];have hp:(put ps i k y).length=ps.length:=ze6 h
 by_cases hj:i=j
 . rw [if_pos hj,if_pos (by omega),zdJ (by omega) (Or.inr (by omega)),qaZ,if_pos hj,if_pos (by omega)]
 . rw [if_neg hj];by_cases h2:i+1<=j/\j<i+k
   . rw [zok h (by omega) (by omega),zok (by omega) h2.1 (by omega)]
   . rw [zdJ h (by omega),zdJ (by omega) (by omega),qaZ,if_neg hj]
theorem zrH:∀ l:List Pg,(zbd l=0)=((l.all fun x=>decide (x.kind=0))=true)
 | []=>by simp [zbd]
 | x::r=>by
  rw [qb2,zbd,qae,<-zrH r,qab];by_cases h:x.kind=0
  . rw [if_pos h];simp [h]
  . rw [if_neg h];simp [h]
theorem zd1{sp:Int}:zb4 sp=true↔0<=sp/\sp<=1:=by
 unfold zb4;rw [qab];omega
theorem zhT(pw np:Int)(ps:List Pg):∀ (l:List Pg) (i:Nat),zaG pw np ps i l=true↔∀ j x,l[j]?=some x->zbo pw np ps (i+j) x=true
 | [],i=>by simp [zaG]
 | y::r,i=>by
  rw [zaG,qae,zhT pw np ps r (i+1)];constructor
  . rintro ⟨h1,h2⟩ j x hx;cases j with
    | zero=>simp at hx;subst hx;exact h1
    | succ j=>rw [qbr]at hx;have:=h2 j x hx;rwa [show i+1+j=i+(j+1) by omega]at this
  . intro h;refine ⟨h 0 y rfl,fun j x hx=>?_⟩
    have:=h (j+1) x (by rw [qbr];exact hx)
    rwa [show i+(j+1)=i+1+j by omega]at this
theorem za5{pw np:Int}{ps:List Pg}:zbs pw np ps=true↔∀ i x,ps[i]?=some x->zbo pw np ps i x=true:=by
 unfold zbs;rw [zhT];simp only [qaG]
theorem zbQ{sp:Int}{ps:List Pg}{i m:Nat}:zbK sp ((ps.drop i).take m)=true↔∀ t,i<=t->t<i+m->∀ z,ps[t]?=some z->z.kind=3/\z.space=sp:=by
 unfold zbK;rw [qaN];constructor
 . intro h t h1 h2 z hz;have hm:z∈(ps.drop i).take m:=by
    refine qba (i:=t-i) ?_
    rw [qa8,if_pos (by omega),qbm,show i+(t-i)=t by omega];exact hz
   exact qat (h z hm)
 . intro h z hz;obtain ⟨j,hj⟩:=List.getElem?_of_mem hz;rw [qa8]at hj;split at hj
   . rename_i hjm;rw [qbm]at hj;exact qad (h (i+j) (by omega) (by omega) z hj)
   . cases hj
theorem zcs(pw np:Int)(ps:List Pg):∀ (t:Nat) (b:Int),zcd pw np ps t b=true↔∃ l,l<t/\(ps.getD l Pg.zero).kind=2/\(∀ m,l<m->m<t->¬(ps.getD m Pg.zero).kind=2)/\b+(t-1-l:Int)<zat pw np (ps.getD l Pg.zero).used
 | 0,b=>by
  rw [zcd];constructor
  . intro h;cases h
  . rintro ⟨l,h,-⟩;omega
 | t+1,b=>by
  rw [zcd];by_cases h2:(ps.getD t Pg.zero).kind=2
  . rw [if_pos h2];constructor
    . intro h;have:=qat h
      exact ⟨t,by omega,h2,fun m a c=>by omega,by omega⟩
    . rintro ⟨l,h3,h4,h5,h6⟩;by_cases hl:l=t
      . subst hl;exact qad (by omega)
      . exact absurd h2 (h5 t (by omega) (by omega))
  . rw [if_neg h2,zcs pw np ps t (b+1)];constructor
    . rintro ⟨l,h3,h4,h5,h6⟩;refine ⟨l,by omega,h4,fun m a c=>?_,by omega⟩
      by_cases hm:m=t
      . subst hm;exact h2
      . exact h5 m a (by omega)
    . rintro ⟨l,h3,h4,h5,h6⟩;have hl:l≠t:=fun e=>h2 (e ▸ h4)
      exact ⟨l,by omega,h4,fun m a c=>h5 m a (by omega),by omega⟩
theorem zlM{pw np:Int}{ps:List Pg}{j:Nat}{x y:Pg}(h:zbs pw np ps=true)(hy:ps[j]?=some y)(hk:y.kind=0\/y.kind=1)(hx:x.kind=1)(hs:zdg pw x=true):zbs pw np (ps.set j x)=true:=by
 rw [za5]at h ⊢
 have hjl:=(qar.1 hy).1;have hget:∀ t,(ps.set j x)[t]?=if j=t then some x else ps[t]?:=fun t=>by
  rw [qaZ];by_cases e:j=t
  . subst e;rw [if_pos rfl,if_pos rfl,if_pos hjl]
  . rw [if_neg e,if_neg e]
 have hD:∀ t,¬j=t->(ps.set j x).getD t Pg.zero=ps.getD t Pg.zero:=fun t ht=>by rw [qay,qay,hget,if_neg ht]
 have hDj:(ps.set j x).getD j Pg.zero=x:=zao (by rw [hget,if_pos rfl])
 have hDy:ps.getD j Pg.zero=y:=zao hy
 have hk2:∀ t,(((ps.set j x).getD t Pg.zero).kind=2↔(ps.getD t Pg.zero).kind=2):=fun t=>by
  by_cases ht:j=t
  . subst ht;rw [hDj,hDy];constructor <;> intro c <;> omega
  . rw [hD t ht]
 intro i z hz;rw [hget]at hz;split at hz
 . cases hz;unfold zbo;rw [if_neg (by omega),if_pos hx]
   exact hs
 . rename_i hji;have hp:=h i z hz;unfold zbo at hp ⊢
   split
   . rename_i k0;rw [if_pos k0]at hp;exact hp
   . rename_i k0;rw [if_neg k0]at hp;split
     . rename_i k1;rw [if_pos k1]at hp;exact hp
     . rename_i k1;rw [if_neg k1]at hp;split
       . rename_i k2;rw [if_pos k2]at hp;unfold zcv at hp ⊢
         rw [List.length_set];rw [qae]at hp ⊢
         refine ⟨hp.1,?_⟩;rw [zbQ] at *
         intro t h1 h2 z' hz'
         rw [hget]at hz'
         split at hz'
         . rename_i e;subst e;have:=hp.2 j h1 h2 y hy
           omega
         . exact hp.2 t h1 h2 z' hz'
       . rename_i k2;rw [if_neg k2]at hp;split
         . rename_i k3;rw [if_pos k3]at hp;unfold zet zg3 at hp ⊢
           rw [qae]at hp ⊢
           refine ⟨hp.1,?_⟩;obtain ⟨l,h1,h2,h3,h4⟩:=(zcs pw np ps i 1).1 hp.2;have hlj:¬j=l:=fun e=>by subst e;rw [hDy]at h2;omega
           exact (zcs pw np _ i 1).2 ⟨l,h1,(hk2 l).2 h2,fun m a c hh=>h3 m a c ((hk2 m).1 hh),by rw [hD l hlj];exact h4⟩
         . rename_i k3;rw [if_neg k3]at hp;cases hp
theorem zsL{pw np:Int}{ps:List Pg}{i k:Nat}{sp n:Int}(h:zbs pw np ps=true)(hf:zcw ps i k=true)(hl:i+k<=ps.length)(h1:1<=k)(hs:zb4 sp=true)(hn:zat pw np n=k):
 zbs pw np (put (ps.set i ⟨2,sp,n,0⟩) (i+1) (k-1) ⟨3,sp,0,0⟩)=true:=by
 rw [za5]at h ⊢
 have hfree:∀ t,i<=t->t<i+k->∀ z,ps[t]?=some z->z.kind=0:=fun t a c z hz=>by
  have hz':z∈(ps.drop i).take k:=by
   refine qba (i:=t-i) ?_
   rw [qa8,if_pos (by omega),qbm,show i+(t-i)=t by omega];exact hz
  unfold zcw at hf;exact qat (qaN.1 hf z hz')
 obtain ⟨qs,hqs⟩:∃ qs,put (ps.set i ⟨2,sp,n,0⟩) (i+1) (k-1) ⟨3,sp,0,0⟩=qs:=⟨_,rfl⟩
 rw [hqs];have hql:qs.length=ps.length:=by rw [<-hqs,ze6 (by rw [List.length_set];omega),List.length_set]
 have hget:∀ t,qs[t]?=if t=i then some ⟨2,sp,n,0⟩ else if i<=t/\t<i+k then some ⟨3,sp,0,0⟩ else ps[t]?:=fun t=>by
  rw [<-hqs];split
  . rename_i e;subst e;rw [zdJ (by rw [List.length_set];omega) (Or.inr (by omega)),qaZ,if_pos rfl,if_pos (by omega)]
  . rename_i e;split
    . rename_i hr;rw [zok (by rw [List.length_set];omega) (by omega) (by omega)]
    . rw [zdJ (by rw [List.length_set];omega) (by omega),qaZ,if_neg (by omega)]
 have hin:∀ t,i<=t->t<i+k->∃ z,ps[t]?=some z:=fun t a c=>⟨_,qas (show t<ps.length by omega)⟩
 have hD:∀ t,¬(i<=t/\t<i+k)->qs.getD t Pg.zero=ps.getD t Pg.zero:=fun t ht=>by rw [qay,qay,hget,if_neg (by omega),if_neg ht]
 have hDi:qs.getD i Pg.zero=⟨2,sp,n,0⟩:=zao (by rw [hget,if_pos rfl])
 have hDt:∀ t,i<t->t<i+k->qs.getD t Pg.zero=⟨3,sp,0,0⟩:=fun t a c=>zao (by rw [hget,if_neg (by omega),if_pos ⟨by omega,c⟩])
 have hD0:∀ t,i<=t->t<i+k->(ps.getD t Pg.zero).kind=0:=fun t a c=>by
  obtain ⟨z,hz⟩:=hin t a c;rw [zao hz];exact hfree t a c z hz
 intro t z hz;rw [hget]at hz;split at hz
 . rename_i e;subst e;cases hz;unfold zbo;rw [if_neg (show ¬(2:Int)=0 by decide),if_neg (show ¬(2:Int)=1 by decide),if_pos rfl]
   unfold zcv;simp only
   rw [hs,hn,hql,qad (show (1:Int)<=k by omega),qad (show (t:Int)+k<=ps.length by omega),show zfV 0=true from rfl,qaU,qaU,qaU,qaU,zbQ]
   intro u a c z hz;rw [hget,if_neg (by omega),if_pos (by omega)]at hz
   cases hz;exact ⟨rfl,rfl⟩
 . rename_i e;split at hz
   . rename_i hr;cases hz;unfold zbo;rw [if_neg (show ¬(3:Int)=0 by decide),if_neg (show ¬(3:Int)=1 by decide),if_neg (show ¬(3:Int)=2 by decide),if_pos rfl]
     unfold zet zg3;rw [show decide ((0:Int)=0/\(0:Int)=0)=true from rfl,qaU,zcs]
     refine ⟨i,by omega,by rw [hDi],fun m a c=>?_,?_⟩
     . rw [hDt m a (by omega)];simp
     . rw [hDi];simp only;rw [hn];omega
   . rename_i hr;have hp:=h t z hz;unfold zbo at hp ⊢
     split
     . rename_i k0;rw [if_pos k0]at hp;exact hp
     . rename_i k0;rw [if_neg k0]at hp;split
       . rename_i k1;rw [if_pos k1]at hp;exact hp
       . rename_i k1;rw [if_neg k1]at hp;split
         . rename_i k2;rw [if_pos k2]at hp;unfold zcv at hp ⊢
           rw [hql];rw [qae]at hp ⊢
           refine ⟨hp.1,?_⟩;rw [zbQ] at *
           intro u a c z' hz'
           by_cases hu:i<=u/\u<i+k
           . obtain ⟨y,hy⟩:=hin u hu.1 hu.2;have h3:=(hp.2 u a c y hy).1;have h0:=hfree u hu.1 hu.2 y hy;omega
           . rw [hget,if_neg (by omega),if_neg hu]at hz'
             exact hp.2 u a c z' hz'
         . rename_i k2;rw [if_neg k2]at hp;split
           . rename_i k3;rw [if_pos k3]at hp;unfold zet zg3 at hp ⊢
             rw [qae]at hp ⊢
             refine ⟨hp.1,?_⟩;obtain ⟨l,h2,h3,h4,h5⟩:=(zcs pw np ps t 1).1 hp.2;have hlo:¬(i<=l/\l<i+k):=fun c=>by have:=hD0 l c.1 c.2;omega
             have htl:t<ps.length:=(qar.1 hz).1;have hlz:ps[l]?=some (ps[l]'(by omega)):=qas _
             have hpl:=h l _ hlz;rw [zao hlz]at h3 h5;unfold zbo at hpl;rw [if_neg (by omega),if_neg (by omega),if_pos h3]at hpl
             unfold zcv at hpl;rw [qae,zbQ]at hpl;have hnot:∀ m,l<m->m<t->¬(i<=m/\m<i+k):=fun m a c hc=>by
              obtain ⟨y,hy⟩:=hin m hc.1 hc.2;have q3:=(hpl.2 m (by omega) (by omega) y hy).1
              have q0:=hfree m hc.1 hc.2 y hy;omega
             refine (zcs pw np qs t 1).2 ⟨l,h2,by rw [hD l hlo,zao hlz];exact h3,fun m a c=>by rw [hD m (hnot m a c)];exact h4 m a c,by rw [hD l hlo,zao hlz];exact h5⟩
           . rename_i k3;rw [if_neg k3]at hp;cases hp
theorem zh2(pw np:Int)(ps:List Pg):∀ (i:Nat) (b:Int),1<=b->(zcd pw np ps i b=true↔b<=zfK pw np ps i)
 | 0,b,hb=>by
  rw [zcd,zfK];constructor
  . intro h;cases h
  . intro h;omega
 | i+1,b,hb=>by
  rw [zcd,zfK];by_cases h2:(ps.getD i Pg.zero).kind=2
  . rw [if_pos h2,if_pos h2,qab];omega
  . rw [if_neg h2,if_neg h2,zh2 pw np ps i (b+1) (by omega)];omega
theorem zlN{pw np:Int}{ps:List Pg}(h:zaI pw np ps 0=true):zbs pw np ps=true:=by
 rw [za5];intro i x hx;have hi:i<ps.length:=(qar.1 hx).1;have hp:=zl1 h i (by omega)
 obtain ⟨_,rfl⟩:=qar.1 hx;rw [qaT hi,zaI]at hp;generalize hX:ps[i]=x at *
 cases hs:zcm pw np x (ps.drop (i+1)) (zfK pw np ps i) with
 | none=>rw [hs]at hp;cases hp
 | some d=>
  unfold zcm at hs;split at hs
  . cases hs
  . rename_i hA;have hsp:zb4 x.space=true:=zd1.2 ⟨by omega,by omega⟩
    have hpn:zfV x.pins=true:=by
     cases hp':zfV x.pins
     . exact absurd (Or.inr (Or.inr (Or.inr hp'))) hA
     . rfl
    unfold zbo;split
    . rename_i k0;rw [if_pos k0]at hs;split at hs
      . rename_i e;rw [e];rfl
      . cases hs
    . rename_i k0;rw [if_neg k0]at hs;split
      . rename_i k1;rw [if_pos k1]at hs;split at hs
        . cases hs
        . unfold zdg;rw [hsp,hpn,qad (show 0<=x.used/\x.used<=pw by omega)];rfl
      . rename_i k1;rw [if_neg k1]at hs;split
        . rename_i k2;rw [if_pos k2]at hs;split at hs
          . cases hs
          . rename_i hB;have hn1:1<=zat pw np x.used:=by omega
            obtain ⟨t1,t2⟩:=(zlp x.space (ps.drop (i+1)) ((zat pw np x.used).toNat-1)).1 (by omega)
            rw [qaI]at t1;unfold zcv;rw [hsp,hpn,qad hn1,qad (show (i:Int)+zat pw np x.used<=ps.length by omega),t2];rfl
        . rename_i k2;rw [if_neg k2]at hs;split
          . rename_i k3;rw [if_pos k3]at hs;split at hs
            . rename_i e;unfold zet;rw [qad e,qaU];unfold zg3;rw [zh2 pw np ps i 1 (by omega)]
              have:x.kind=3↔0<zfK pw np ps i:=Classical.not_not.1 fun c=>hA (Or.inl c)
              have:=this.1 k3
              omega
            . cases hs
          . rename_i k3;rw [if_neg k3]at hs;cases hs
theorem zfU{pw np:Int}{ps:List Pg}(h:zbs pw np ps=true):∀ (k i:Nat),i+k=ps.length->zaI pw np (ps.drop i) (zfK pw np ps i)=true
 | 0,i,hi=>by rw [qbe (by omega)];rfl
 | k+1,i,hi=>by
  have ih:=zfU h k (i+1) (by omega)
  have hlt:i<ps.length:=by omega
  have hx:ps[i]?=some (ps[i]'hlt):=qas _
  rw [za5]at h;have hp:=h i _ hx;rw [qaT hlt,zaI];generalize ps[i]'hlt=x at *
  have hdue:0<zfK pw np ps i->x.kind=3/\0<=x.space/\x.space<=1:=fun hd=>by
   obtain ⟨l,h1,h2,-,h4⟩:=(zcs pw np ps i 1).1 ((zh2 pw np ps i 1 (by omega)).2 (by omega))
   have hl:ps[l]?=some (ps[l]'(by omega)):=qas _
   have hpl:=h l _ hl;rw [zao hl]at h2 h4;unfold zbo at hpl;rw [if_neg (by omega),if_neg (by omega),if_pos h2]at hpl
   unfold zcv at hpl;simp only [qae]at hpl;have ht:=(zbQ.1 hpl.2) i (by omega) (by omega) x hx
   have hs:=zd1.1 hpl.1.1.1.1;exact ⟨ht.1,by omega,by omega⟩
  have key:zcm pw np x (ps.drop (i+1)) (zfK pw np ps i)≠none:=by
   have h3:x.kind=3->0<zfK pw np ps i/\x.used=0/\x.pins=0:=fun k3=>by
    unfold zbo at hp;rw [if_neg (by omega),if_neg (by omega),if_neg (by omega),if_pos k3]at hp
    unfold zet at hp;rw [qae,qab]at hp;have:=(zh2 pw np ps i 1 (by omega)).1 hp.2
    exact ⟨by omega,hp.1⟩
   have hiff:x.kind=3↔0<zfK pw np ps i:=⟨fun k=>(h3 k).1,fun d=>(hdue d).1⟩
   unfold zbo at hp;unfold zcm;split at hp
   . rename_i k0;obtain ⟨a1,a2,a3⟩:=qat hp;have ex:x=Pg.zero:=by cases x;simp only at k0 a1 a2 a3;subst k0 a1 a2 a3;rfl
     rw [if_neg (by rw [a1,a3];rintro (c | c | c | c);exact c hiff;omega;omega;cases c),if_pos k0,if_pos ex]
     exact fun c=>by cases c
   . rename_i k0;split at hp
     . rename_i k1;unfold zdg at hp;simp only [qae,qab]at hp;have hs:=zd1.1 hp.1.1;rw [if_neg (by rintro (c | c | c | c);exact c hiff;omega;omega;rw [hp.2]at c;cases c),if_neg k0,if_pos k1,if_neg (by omega)]
       exact fun c=>by cases c
     . rename_i k1;split at hp
       . rename_i k2;unfold zcv at hp;simp only [qae,qab]at hp;obtain ⟨⟨⟨⟨a1,a2⟩,a3⟩,a4⟩,a5⟩:=hp;have hs:=zd1.1 a1;have ht:=(zlp x.space (ps.drop (i+1)) ((zat pw np x.used).toNat-1)).2 ⟨by rw [qaI];omega,a5⟩
         rw [if_neg (by rintro (c | c | c | c);exact c hiff;omega;omega;rw [a3]at c;cases c),if_neg k0,if_neg k1,if_pos k2,if_neg (by omega)]
         exact fun c=>by cases c
       . rename_i k2;split at hp
         . rename_i k3;obtain ⟨b1,b2,b3⟩:=h3 k3;obtain ⟨-,c1,c2⟩:=hdue b1;rw [if_neg (by rw [b3];rintro (c | c | c | c);exact c hiff;omega;omega;cases c),if_neg k0,if_neg k1,if_neg k2,if_pos k3,if_pos ⟨b2,b3⟩]
           exact fun c=>by cases c
         . cases hp
  cases hs:zcm pw np x (ps.drop (i+1)) (zfK pw np ps i) with
  | none=>exact absurd hs key
  | some d=>
   simp only
   rw [zvg hx hs];exact ih
theorem zqS(pw np:Int)(ps:List Pg):zaI pw np ps 0=zbs pw np ps:=by
 cases h:zbs pw np ps
 . cases h2:zaI pw np ps 0
   . rfl
   . rw [zlN h2]at h;cases h
 . have:=zfU h ps.length 0 (by omega)
   rwa [qbV]at this
theorem zeB(pw np:Int)(nw:Nat)(ps:List Pg)(sp b:Int):zjp pw np nw ps sp b=ze7 pw np nw ps sp b:=by
 unfold zjp ze7;rw [zqS];have:zb4 sp=decide (0<=sp/\sp<=1):=by
  unfold zb4;by_cases h:0<=sp/\sp<=1
  . rw [qad h];exact qad (by omega)
  . rw [qaj h];exact qaj (by omega)
 rw [this]
theorem zx4{pw np k n m:Int}(h:k=0):zk7 pw np k n m=false:=by
 unfold zk7;simp [h]
theorem zx5{pw np k n m:Int}(h:¬k=0):zk7 pw np k n m=(zat pw np (zaP k n m) != -1):=by
 unfold zk7;cases hv:zaz k n m
 . rw [zsP hv,zhp (Or.inr (by omega))];rfl
 . by_cases hz:zat pw np (zaP k n m) = -1 <;> simp [h,hz]
structure PlOK7 (h:Hp):Prop where
 conf:confB h.pw h.np=true
 len:(h.pages.length:Int)=h.np
 sp:0<=h.space/\h.space<=1
 bp:h.bump = -1\/∃ K:Nat,∃ x:Pg,h.bump=K/\h.pages[K]?=some x/\x.kind=1/\0<=x.used/\x.used<=h.pw
theorem PlOK7.bump{h:Hp}(hp:PlOK7 h):(h.bump = -1\/0<=h.bump/\h.bump<h.pages.length)/\(¬h.bump = -1->0<=(h.pages.getD h.bump.toNat Pg.zero).used/\(h.pages.getD h.bump.toNat Pg.zero).used<=100000):=by
 obtain ⟨_,k2,_⟩:=zaj hp.conf;rcases hp.bp with h1 | ⟨K,x,h1,h2,-,h3,h4⟩
 . exact ⟨Or.inl h1,fun c=>absurd h1 c⟩
 . have:=(qar.1 h2).1
   rw [h1,qac,zao h2];exact ⟨Or.inr ⟨by omega,by omega⟩,fun _=>⟨h3,by omega⟩⟩
theorem zgm{pw np:Int}{K:Nat}{o:Int}(hc:confB pw np=true)(hk:(K:Int)<np)(h0:0<=o)(h1:o<pw):zmV pw np K o=0/\zbj pw np K o=4096+K*pw+o:=by
 obtain ⟨a,b⟩:=zhz hc (p:=(K:Int)) (o:=o) (qad ⟨by omega,hk,h0,h1⟩)
 exact ⟨b,a⟩
theorem zon{h:Hp}{nn:Int}(hp:PlOK7 h)(h1:1<=nn)(hn:newB h nn=false):
 ∃ (K:Nat) (x:Pg),h.bump=K/\h.pages[K]?=some x/\(0<=x.used/\x.used<=100000)/\zb9 h nn=true/\zlQ h nn=⟨h.pw,h.np,h.words,h.pages.set K ⟨x.kind,x.space,x.used+nn,x.pins⟩,h.space,K⟩/\zmV h.pw h.np K x.used=0/\zlR h nn=zbj h.pw h.np K x.used:=by
 have hd:=qa3 hn;obtain ⟨_,k2,_⟩:=zaj hp.conf;rcases hp.bp with h2 | ⟨K,x,h2,h3,-,h4,h5⟩
 . exact absurd (Or.inl (by omega)) hd
 . have hK:=(qar.1 h3).1;have hbp:zkC h=x:=by unfold zkC;rw [h2,qac,zao h3]
   have hl:=hp.len;rw [hbp]at hd;obtain ⟨a,b⟩:=zgm (K:=K) (o:=x.used) hp.conf (by omega) h4 (by omega)
   have hJ:zfS h nn=K:=by unfold zfS;rw [hn];exact h2
   have hP:zbN h nn=h.pages:=by unfold zbN;rw [hn];rfl
   refine ⟨K,x,h2,h3,⟨h4,by omega⟩,by unfold zb9;rw [hn];rfl,?_,a,?_⟩
   . unfold zlQ zgK;rw [hJ,hP,qac,zao h3]
   . unfold zlR;rw [hJ,hP,qac,zao h3,b]
theorem zqV{h:Hp}{nn:Int}(hp:PlOK7 h)(hn:newB h nn=true)(hf:zdE h=false):
 ∃ (K:Nat),zau h.pages 1=K/\K<h.pages.length/\zjl h.pages K h.space=0/\zb2 h.pages K h.space=h.pages.set K ⟨1,h.space,0,0⟩/\(∃ y,h.pages[K]?=some y/\y.kind=0)/\zb9 h nn=true/\zlQ h nn=⟨h.pw,h.np,h.words,(h.pages.set K ⟨1,h.space,0,0⟩).set K ⟨1,h.space,0+nn,0⟩,h.space,K⟩/\zmV h.pw h.np K 0=0/\zlR h nn=zbj h.pw h.np K 0:=by
 have hd:=qa3 hf;have hF:0<=zau h.pages 1:=by omega
 obtain ⟨-,f1,f2⟩:=zdB hF;obtain ⟨K,hK⟩:=qaM hF;rw [hK]at f1 f2;obtain ⟨y,hy,hy0⟩:=f2 K (by omega) (by omega)
 have hlt:K<h.pages.length:=(qar.1 hy).1;have hfree:zcw h.pages K 1=true:=by
  have:=zck (ps:=h.pages) (i:=K) (k:=0) (x:=y) (by rw [qa7];exact hy)
  rw [zcV,hy0]at this;simpa using this
 obtain ⟨t1,t2⟩:=zlL (x:=⟨1,h.space,0,0⟩) (y:=Pg.zero) hlt (show K+1<=h.pages.length by omega) hfree
 rw [zuG (by omega) (by omega),zph]at t1
 have hps:zb2 h.pages K h.space=h.pages.set K ⟨1,h.space,0,0⟩:=by
  unfold zb2;rw [if_pos hp.sp];exact t1
 have hpe:zjl h.pages K h.space=0:=by unfold zjl;rw [if_pos hp.sp];exact t2
 have hl:=hp.len;obtain ⟨k1,k2,_⟩:=zaj hp.conf;obtain ⟨a,b⟩:=zgm (K:=K) (o:=0) hp.conf (by omega) (by omega) (by omega)
 have hJ:zfS h nn=K:=by unfold zfS;rw [hn];exact hK
 have hP:zbN h nn=h.pages.set K ⟨1,h.space,0,0⟩:=by unfold zbN;rw [hn,if_pos rfl,hK,hps]
 have hg:(h.pages.set K ⟨1,h.space,0,0⟩)[K]?=some ⟨1,h.space,0,0⟩:=by rw [qaZ,if_pos rfl,if_pos hlt]
 refine ⟨K,hK,hlt,hpe,hps,⟨y,hy,hy0⟩,by unfold zb9;rw [hn,hf];rfl,?_,a,?_⟩
 . unfold zlQ zgK;rw [hJ,hP,qac,zao hg]
 . unfold zlR;rw [hJ,hP,qac,zao hg,b]
theorem zvG{h:Hp}{nn:Int}(hn:newB h nn=true)(hf:zdE h=true):zb9 h nn=false:=by
 unfold zb9;rw [hn,hf];rfl
theorem zsX{h:Hp}{n k:Int}(hp:PlOK7 h)(hk:zat h.pw h.np n=k)(h1:1<=k)(hF:0<=zau h.pages k):
 ∃ (K kk:Nat),k=kk/\zau h.pages k=K/\K+kk<=h.pages.length/\zcw h.pages K kk=true/\zms h.pw h.np h.pages K h.space n=0/\zgd h.pw h.np h.pages K h.space n=put (h.pages.set K ⟨2,h.space,n,0⟩) (K+1) (kk-1) ⟨3,h.space,0,0⟩/\zmV h.pw h.np K 0=0/\zoE h k=zbj h.pw h.np K 0:=by
 obtain ⟨-,f1,f2⟩:=zdB hF;obtain ⟨K,hK⟩:=qaM hF;obtain ⟨kk,hkk⟩:=qaM (show 0<=k by omega)
 rw [hK]at f1 f2;have hfree:∀ j:Nat,j<=kk->zcw h.pages K j=true:=by
  intro j;induction j with
  | zero=>intro _;exact zcV _ _
  | succ j ih=>
   intro hj;obtain ⟨y,hy,hy0⟩:=f2 (K+j) (by omega) (by omega)
   rw [zck hy,ih (by omega),hy0];rfl
 have hl:=hp.len;obtain ⟨k1,k2,_⟩:=zaj hp.conf;obtain ⟨a,b⟩:=zgm (K:=K) (o:=0) hp.conf (by omega) (by omega) (by omega)
 obtain ⟨t1,t2⟩:=zlL (x:=⟨2,h.space,n,0⟩) (y:=⟨3,h.space,0,0⟩) (show K<h.pages.length by omega) (show K+kk<=h.pages.length by omega) (hfree kk (qan _))
 rw [zuG (by omega) (by omega)]at t1
 obtain ⟨e1,e2⟩:=zxL (ps:=h.pages) (i:=(K:Int)) (show 1<=zat h.pw h.np n/\0<=h.space/\h.space<=1 from ⟨by omega,hp.sp⟩)
 refine ⟨K,kk,hkk,hK,by omega,hfree kk (qan _),?_,?_,a,?_⟩
 . rw [e2,hk,hkk];exact t2
 . rw [e1,hk,hkk];exact t1
 . unfold zoE;rw [hK,b];omega
def ze8(h:Hp)(n:Int):Bool:=if 0<zat h.pw h.np n then zis h (zat h.pw h.np n) else zb9 h n
def zdL(h:Hp)(n:Int):Hp:=if 0<zat h.pw h.np n then zoD h n (zat h.pw h.np n) else zlQ h n
def zd2(h:Hp)(n:Int):Int:=if 0<zat h.pw h.np n then zoE h (zat h.pw h.np n) else zlR h n
def okP(h:Hp):Bool:=zjp h.pw h.np h.words.length h.pages h.space h.bump
theorem zaN{h:Hp}(hp:okP h=true):confB h.pw h.np=true/\(h.words.length:Int)=h.np*h.pw/\(h.pages.length:Int)=h.np/\zb4 h.space=true/\zgj h.pages h.bump=true/\zbs h.pw h.np h.pages=true:=by
 unfold okP zjp at hp;simp only [qae,qab]at hp;obtain ⟨⟨⟨⟨⟨h1,h2⟩,h3⟩,h4⟩,h5⟩,h6⟩:=hp;exact ⟨h1,h2,h3,h4,h5,h6⟩
theorem zuO{h:Hp}(h1:confB h.pw h.np=true)(h2:(h.words.length:Int)=h.np*h.pw)(h3:(h.pages.length:Int)=h.np)(h4:zb4 h.space=true)(h5:zgj h.pages h.bump=true)(h6:zbs h.pw h.np h.pages=true):okP h=true:=by
 unfold okP zjp;rw [h1,qad h2,qad h3,h4,h5,h6];rfl
theorem zlr{pw np:Int}{ps:List Pg}{K:Nat}{x:Pg}(h:zbs pw np ps=true)(hx:ps[K]?=some x)(h1:x.kind=1):zb4 x.space=true/\(0<=x.used/\x.used<=pw)/\zfV x.pins=true:=by
 have:=za5.1 h K x hx
 unfold zbo at this;rw [if_neg (by omega),if_pos h1]at this
 unfold zdg at this;rw [qae,qae,qab]at this;exact ⟨this.1.1,this.1.2,this.2⟩
theorem PlOK7.of{h:Hp}(hp:okP h=true):PlOK7 h:=by
 obtain ⟨h1,h2,h3,h4,h5,h6⟩:=zaN hp;refine ⟨h1,h3,zd1.1 h4,?_⟩;rcases qat h5 with e | ⟨e1,e2,e3⟩
 . exact Or.inl e
 . have hx:h.pages[h.bump.toNat]?=some (h.pages[h.bump.toNat]'(by omega)):=qas _
   rw [zao hx]at e3;obtain ⟨-,hu,-⟩:=zlr h6 hx e3;exact Or.inr ⟨h.bump.toNat,_,by omega,hx,e3,hu.1,hu.2⟩
theorem zuU{pw n:Int}(hn:0<zeO pw n):n<=zeO pw n*pw:=by
 unfold zeO at *
 split at hn
 . omega
 . rename_i h0;rw [if_neg h0];split at hn
   . rename_i h1;rw [if_pos h1];omega
   . rename_i h1;rw [if_neg h1];split at hn
     . rename_i h2;rw [if_pos h2];omega
     . rename_i h2;rw [if_neg h2];split at hn
       . rename_i h3;rw [if_pos h3];omega
       . rename_i h3;rw [if_neg h3];split at hn
         . rename_i h4;rw [if_pos h4];omega
         . omega
theorem ztt{pw np n:Int}(hc:confB pw np=true)(h0:¬0<zat pw np n)(h1:¬zat pw np n = -1):1<=n/\n<=pw / 4:=by
 have hz:zat pw np n=0:=by have:=zpM pw np n;omega
 by_cases hn:1<=n
 . rw [zho hc hn]at hz;refine ⟨hn,?_⟩;unfold zeO at hz;split at hz
   . assumption
   . split at hz
     . omega
     . split at hz
       . omega
       . split at hz
         . omega
         . split at hz <;> omega
 . rw [zhp (Or.inr (by omega))]at hz;omega
theorem zqb{ps:List Pg}{K:Nat}{x:Pg}(h:ps[K]?=some x)(h1:x.kind=1):zgj ps K=true:=by
 have:=(qar.1 h).1
 refine qad (Or.inr ⟨by omega,by omega,?_⟩)
 rw [qac,zao h];exact h1
theorem zkn{h:Hp}{s:Int}(hp:okP h=true)(h1:1<=s)(hn:¬zat h.pw h.np s = -1)(hok:ze8 h s=true):
 okP (zdL h s)=true/\(zdL h s).words=h.words/\(0<=zd2 h s/\zd2 h s<18446744073709551616)/\okA h.words.length (zd2 h s) s.toNat=true:=by
 obtain ⟨p1,p2,p3,p4,p5,p6⟩:=zaN hp;have hpl:=PlOK7.of hp;obtain ⟨g1,g2⟩:=conf_prod p1;obtain ⟨k1,k2,-,k4,k5⟩:=zaj p1;unfold ze8 at hok;unfold zdL zd2;by_cases hk:0<zat h.pw h.np s
 . rw [if_pos hk]at hok;rw [if_pos hk,if_pos hk];have hd:=qat hok;obtain ⟨K,kk,e1,e2,e3,e4,-,e6,-,e8⟩:=zsX (n:=s) hpl rfl (by omega) (show 0<=zau h.pages (zat h.pw h.np s) by omega)
   have hH:zoD h s (zat h.pw h.np s)={ h with pages:=put (h.pages.set K ⟨2,h.space,s,0⟩) (K+1) (kk-1) ⟨3,h.space,0,0⟩ }:=by unfold zoD;rw [e2,e6]
   have hlen:(put (h.pages.set K ⟨2,h.space,s,0⟩) (K+1) (kk-1) ⟨3,h.space,0,0⟩).length=h.pages.length:=by rw [ze6 (by rw [List.length_set];omega),List.length_set]
   obtain ⟨a1,a2⟩:=zgm (K:=K) (o:=0) p1 (by omega) (by omega) (by omega)
   have hsz:s<=zat h.pw h.np s*h.pw:=by
    have h3:=zho p1 h1;rw [h3]at hk ⊢
    exact zuU hk
   have hmul:(K:Int)*h.pw+zat h.pw h.np s*h.pw<=h.np*h.pw:=by
    rw [<-qbg];exact qaV (by omega) (by omega)
   have hK0:0<=(K:Int)*h.pw:=qbj (by omega) (by omega)
   rw [hH,e8,a2];refine ⟨zuO p1 p2 (by simp only;rw [hlen];exact p3) p4 ?_ (zsL p6 e4 e3 (by omega) p4 e1),rfl,⟨by omega,by omega⟩,qad ⟨by omega,by omega⟩⟩
   simp only
   rcases qat p5 with e | ⟨c1,c2,c3⟩
   . exact qad (Or.inl e)
   . have hx:h.pages[h.bump.toNat]?=some (h.pages[h.bump.toNat]'(by omega)):=qas _
     rw [zao hx]at c3;have hnf:¬(K<=h.bump.toNat/\h.bump.toNat<K+kk):=fun c=>by
      have hz':h.pages[h.bump.toNat]'(by omega)∈(h.pages.drop K).take kk:=by
       refine qba (i:=h.bump.toNat-K) ?_
       rw [qa8,if_pos (by omega),qbm,show K+(h.bump.toNat-K)=h.bump.toNat by omega];exact hx
      unfold zcw at e4;have:=qat (qaN.1 e4 _ hz')
      omega
     have hy:(put (h.pages.set K ⟨2,h.space,s,0⟩) (K+1) (kk-1) ⟨3,h.space,0,0⟩)[h.bump.toNat]?=some (h.pages[h.bump.toNat]'(by omega)):=by
      rw [zdJ (by rw [List.length_set];omega) (by omega),qaZ,if_neg (by omega)];exact hx
     have:=zqb hy c3
     rwa [show ((h.bump.toNat:Nat):Int)=h.bump by omega]at this
 . rw [if_neg hk]at hok;rw [if_neg hk,if_neg hk];obtain ⟨s1,s4⟩:=ztt p1 hk hn;cases hnb:newB h s
   . obtain ⟨K,x,b1,b2,b3,-,b5,-,b7⟩:=zon hpl h1 hnb;have hKl:=(qar.1 b2).1;have hx1:x.kind=1:=by
      rcases hpl.bp with e | ⟨K',x',e1,e2,e3,-⟩
      . omega
      . obtain rfl:K=K':=by omega
        rw [b2]at e2;cases e2;exact e3
     obtain ⟨u1,u2,u3⟩:=zlr p6 b2 hx1;have hfit:x.used+s<=h.pw:=by
      have hd:=qa3 hnb;unfold zkC at hd;rw [b1,qac,zao b2]at hd;omega
     obtain ⟨a1,a2⟩:=zgm (K:=K) (o:=x.used) p1 (by omega) (by omega) (by omega)
     have hmul:(K:Int)*h.pw+h.pw<=h.np*h.pw:=(zaR p1 (by omega) (by omega)).2
     have hK0:0<=(K:Int)*h.pw:=qbj (by omega) (by omega)
     rw [b5,b7,a2];refine ⟨zuO p1 p2 (by simp only;rw [List.length_set];exact p3) p4 ?_ ?_,rfl,⟨by omega,by omega⟩,qad ⟨by omega,by omega⟩⟩
     . exact zqb (x:=⟨x.kind,x.space,x.used+s,x.pins⟩) (by simp only;rw [qaZ,if_pos rfl,if_pos hKl]) hx1
     . refine zlM p6 b2 (Or.inr hx1) hx1 ?_;unfold zdg;simp only
       rw [u1,u3,qad (show 0<=x.used+s/\x.used+s<=h.pw by omega)];rfl
   . have hf:zdE h=false:=by
      unfold zb9 at hok;rw [hnb,qaU]at hok;simpa using hok
     obtain ⟨K,-,b2,-,-,⟨y,hy,hy0⟩,-,b5,-,b7⟩:=zqV hpl hnb hf;obtain ⟨a1,a2⟩:=zgm (K:=K) (o:=0) p1 (by omega) (by omega) (by omega)
     have hmul:(K:Int)*h.pw+h.pw<=h.np*h.pw:=(zaR p1 (by omega) (by omega)).2
     have hK0:0<=(K:Int)*h.pw:=qbj (by omega) (by omega)
     rw [List.set_set]at b5;rw [b5,b7,a2];refine ⟨zuO p1 p2 (by simp only;rw [List.length_set];exact p3) p4 ?_ ?_,rfl,⟨by omega,by omega⟩,qad ⟨by omega,by omega⟩⟩
     . exact zqb (x:=⟨1,h.space,0+s,0⟩) (by simp only;rw [qaZ,if_pos rfl,if_pos b2]) rfl
     . refine zlM p6 hy (Or.inl hy0) rfl ?_;unfold zdg;simp only
       rw [p4,show zfV 0=true from rfl,qad (show 0<=0+s/\0+s<=h.pw by omega)];rfl
theorem zqW(h:Hp)(k n m:Int):zpJ h k n m=ze8 h (zaP k n m)/\zmp h k n m=zdL h (zaP k n m)/\zpK h k n m=zd2 h (zaP k n m):=by
 unfold zpJ zmp zpK zuT ze8 zdL zd2;by_cases hb:0<zat h.pw h.np (zaP k n m)
 . simp [hb]
 . simp [hb]
theorem zxd{B:Int}(hB:0<=B){h:Hp}(hp:PinL B h.pages)(s:Int):PinL B (zdL h s).pages:=by
 unfold zdL;split
 . show PinL B (zgd _ _ _ _ _ _)
   unfold zgd;split
   . exact hp.take hB _ _ rfl rfl
   . exact PinL.nil B
 . show PinL B (zgK (zbN h s) _ _)
   refine PinL.use ?_ hB _ _;unfold zbN;split
   . unfold zb2;split
     . exact hp.take hB _ _ rfl rfl
     . exact PinL.nil B
   . exact hp
theorem zw7:zvr:=by
 intro n x k l m hn hm L k1 k3 l0 l1 m0 m1 he;obtain ⟨ha,hr⟩:zks x.h k l m=true/\zpJ x.h k l m=true:=by
  unfold zcL at he;split at he
  . rename_i h1;split at he
    . rename_i h2;exact ⟨h1,h2⟩
    . exact absurd he (by decide)
  . exact absurd he (by decide)
 obtain ⟨e1,e2,e3⟩:=zqW x.h k l m;rw [e1]at hr;unfold zks zk7 at ha;simp only [qae,qab]at ha;obtain ⟨ho,⟨hv,hk0⟩,hnd⟩:=ha;have hs:=zcq hv;have hop:okP x.h=true:=by unfold okP;rw [zeB];exact ho
 obtain ⟨q1,q2,q3,q4⟩:=zkn hop (show 1<=zaP k l m by rw [hs];omega) hnd hr
 have hoh:okH (zdL x.h (zaP k l m))=true:=by unfold okP at q1;rw [zeB]at q1;exact q1
 have hil:(zhs k l m).length=(zaP k l m).toNat:=by rw [zmv,hs];omega
 have hka:okA (zdL x.h (zaP k l m)).words.length (zd2 x.h (zaP k l m)) (zhs k l m).length=true:=by rw [q2,hil];exact q4
 have hie:zjK (zdL x.h (zaP k l m)) (zd2 x.h (zaP k l m)) k l m=0:=by
  unfold zjK;rw [if_pos ⟨hv,hoh⟩];unfold zdo;rw [if_pos hka]
 have hH:zdq x.h k l m={ zdL x.h (zaP k l m) with words:=zaC (zdL x.h (zaP k l m)).words (zd2 x.h (zaP k l m)) (zhs k l m) }:=by
  unfold zdq;rw [if_pos he,e2,e3];unfold zmu;rw [if_pos hie]
 have hA:ziG x.h k l m=zd2 x.h (zaP k l m):=by unfold ziG;rw [if_pos he,e3]
 obtain ⟨p1,p2,p3,-⟩:=zam hoh;unfold putV;rw [hH,hA];refine ⟨p1,?_,p3,fun y hy=>?_,L.wk,?_,by have:=L.wkn;show x.wk.length<=_;omega,fun g hg=>?_⟩
 . show ((zaC _ _ _).length:Int)=_
   rw [zer hka];exact p2
 . rcases qaq.1 hy with h2 | h2
   . exact L.st y h2
   . rw [qa0.1 h2];exact q3
 . have:=L.stn
   show (x.st++[zd2 x.h (zaP k l m)]).length<=_
   rw [qaE];simp;omega
 . have:=zxd (B:=n) (by omega) L.pins (zaP k l m) g hg
   omega
theorem zxH:∀ n x,Made n x->n<=400->Lens n x:=zy4 zw7 zp6
theorem zxi{fs:List (Int×Nat)}(h1:fitL 64 (fs.map (·.1))=true)(h:okF fs=false):zq2 fs=(0,2):=by
 unfold zq2;rw [if_pos h1,if_neg (by simp [h])]
theorem zuM{fs:List (Int×Nat)}(h1:fitL 64 (fs.map (·.1))=true)(h:okF fs=true):zq2 fs=(((zkT fs:Nat):Int),0):=by
 unfold zq2;rw [if_pos h1,if_pos h]
theorem zyK{fs:List (Int×Nat)}(h1:¬fitL 64 (fs.map (·.1))=true):zq2 fs=(0,1):=by
 unfold zq2;rw [if_neg h1]
theorem zwW(l:List Int)(x:Int):sumW (l++[x])=sumW l+x.toNat:=by
 induction l with
 | nil=>simp [sumW]
 | cons g l ih=>rw [qaK,sumW,ih,sumW];omega
def zkQ:Nat->List Int->List Int
 | _,[]=>[]
 | x,a::r=>((x &&& zfE a:Nat):Int)::zkQ (x >>> a.toNat) r
theorem zwO(ws:List Int):∀ x,(zkQ x ws).length=ws.length:=by
 induction ws with
 | nil=>intro x;rfl
 | cons b r ih=>intro x;rw [zkQ,qaF,ih,qaF]
def unpE(x:Nat)(ws:List Int):Int:=if fitL 64 ws=true then (if x >>> sumW ws=0 then 0 else 2) else 1
def unpV(x:Nat)(ws:List Int):List Int:=if fitL 64 ws=true then (if x >>> sumW ws=0 then zkQ x ws else []) else []
theorem zwX{ws:List Int}{k:Nat}{a:Int}(h:ws[k]?=some a):sumW (ws.take (k+1))=sumW (ws.take k)+a.toNat:=by
 rw [zbc h,zwW]
theorem zuN{n m:Int}(h1:0<=n)(h2:n<=32):m<=zf1 n↔m<2 ^ n.toNat:=by
 unfold zf1;rw [show min n.toNat 64=n.toNat from by omega]
 omega
theorem map_no{n m:Int}(h1:0<=n)(h2:n<=32)(h3:zf1 n<m):zaz 1 n m=false :=
 zcn fun h=>by have:=(zuN h1 h2).2 (h.2.2.2.2.1 rfl).2;omega
theorem zsJ{k n m:Int}(hk:k=0\/k=2\/k=3)(h:0<=n)(h2:n<=255)(h3:m=0):zaz k n m=true :=
 zhP ⟨by omega,by omega,h,h2,fun c=>by omega,fun _=>h3⟩
end Go.VI.P
