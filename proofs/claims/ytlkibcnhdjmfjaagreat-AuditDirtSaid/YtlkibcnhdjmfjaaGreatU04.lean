import Derived.Test.YtlkibcnhdjmfjaaGreatU00
import Derived.Calls
import Derived.Laws.CopyOwn
import Derived.Laws.Entries
import Derived.RowKit
import Derived.IntWalk
set_option linter.unusedSimpArgs false
set_option linter.unusedVariables false
set_option maxRecDepth 100000
set_option maxHeartbeats 4000000
namespace Go.VI.P
open Go
open Go.RowKit
theorem zbt{α:Type}{l:List α}{k:Nat}{x:α}(h:l[k]?=some x):l.take (k+1)=l.take k++[x]:=by
 rw [List.take_add_one,h];rfl
def confB(pw np:Int):Bool:=decide (16<=pw/\pw<=64/\pw % 4=0/\8<=np/\np<=64)
theorem zaj{pw np:Int}(h:confB pw np=true):16<=pw/\pw<=64/\pw % 4=0/\8<=np/\np<=64:=by
 unfold confB at h;exact qar h
theorem zvq{pw np:Int}(h:16<=pw/\pw<=64/\pw % 4=0/\8<=np/\np<=64):confB pw np=true:=by
 unfold confB;exact qab h
def zgh(pw np:Int):Int:=if confB pw np then np / 4 else 0
def zdX(pw np:Int):Int:=if confB pw np then pw / 4 else 0
def zeK(pw n:Int):Int:=if n<=pw / 4 then 0 else if n<=pw then 1 else if n<=2*pw then 2 else if n<=3*pw then 3 else if n<=4*pw then 4 else -1
def zax(pw np n:Int):Int:=if confB pw np=true/\1<=n then zeK pw n else -1
theorem zgA{pw np n:Int}(h:confB pw np=true)(h1:1<=n):zax pw np n=zeK pw n:=by unfold zax;rw [if_pos ⟨h,h1⟩]
theorem zgB{pw np n:Int}(h:confB pw np=false\/n<1):zax pw np n = -1:=by
 unfold zax;rw [if_neg];rintro ⟨a,b⟩;rcases h with h | h
 · rw [a]at h;cases h
 · omega
def inPg(pw np p o:Int):Bool:=decide (0<=p/\p<np/\0<=o/\o<pw)
def za7(pw np p o:Int):Int:=if confB pw np then (if inPg pw np p o then 4096+p*pw+o else 0) else 0
def zlo(pw np p o:Int):Int:=if confB pw np then (if inPg pw np p o then 0 else 2) else 1
def inAr(pw np a:Int):Bool:=decide (4096<=a/\a<4096+np*pw)
def ofI(pw np a:Int):Int:=if confB pw np then (if inAr pw np a then (a-4096) / pw else 0) else 0
def ofK(pw np a:Int):Int:=if confB pw np then (if inAr pw np a then (a-4096) % pw else 0) else 0
def ofE(pw np a:Int):Int:=if confB pw np then (if inAr pw np a then 0 else 2) else 1
theorem zwl{pw np:Int}(h:confB pw np=true):zgh pw np=np / 4:=by unfold zgh;rw [if_pos h]
theorem zwm{pw np:Int}(h:confB pw np=false):zgh pw np=0:=by unfold zgh;rw [if_neg (by simp [h])]
theorem zjY{pw np:Int}(h:confB pw np=true):zdX pw np=pw / 4:=by unfold zdX;rw [if_pos h]
theorem zvR{pw np:Int}(h:confB pw np=false):zdX pw np=0:=by unfold zdX;rw [if_neg (by simp [h])]
theorem zdN{pw np p o:Int}(h:confB pw np=true)(h1:inPg pw np p o=true):za7 pw np p o=4096+p*pw+o/\zlo pw np p o=0:=by
 unfold za7 zlo;rw [if_pos h,if_pos h,if_pos h1,if_pos h1];exact ⟨rfl,rfl⟩
theorem zn5{pw np p o:Int}(h:confB pw np=true)(h1:inPg pw np p o=false):za7 pw np p o=0/\zlo pw np p o=2:=by
 unfold za7 zlo;rw [if_pos h,if_pos h,if_neg (by simp [h1]),if_neg (by simp [h1])];exact ⟨rfl,rfl⟩
theorem addr_no{pw np p o:Int}(h:confB pw np=false):za7 pw np p o=0/\zlo pw np p o=1:=by
 unfold za7 zlo;rw [if_neg (by simp [h]),if_neg (by simp [h])];exact ⟨rfl,rfl⟩
theorem zg5{pw np a:Int}(h:confB pw np=true)(h1:inAr pw np a=true):ofI pw np a=(a-4096) / pw/\ofK pw np a=(a-4096) % pw/\ofE pw np a=0:=by
 unfold ofI ofK ofE;rw [if_pos h,if_pos h,if_pos h,if_pos h1,if_pos h1,if_pos h1];exact ⟨rfl,rfl,rfl⟩
theorem ze6{pw np a:Int}(h:confB pw np=true)(h1:inAr pw np a=false):ofI pw np a=0/\ofK pw np a=0/\ofE pw np a=2:=by
 unfold ofI ofK ofE;rw [if_pos h,if_pos h,if_pos h,if_neg (by simp [h1]),if_neg (by simp [h1]),if_neg (by simp [h1])];exact ⟨rfl,rfl,rfl⟩
theorem zwg{pw np a:Int}(h:confB pw np=false):ofI pw np a=0/\ofK pw np a=0/\ofE pw np a=1:=by
 unfold ofI ofK ofE;rw [if_neg (by simp [h]),if_neg (by simp [h]),if_neg (by simp [h])];exact ⟨rfl,rfl,rfl⟩
theorem conf_prod{pw np:Int}(h:confB pw np=true):128<=np*pw/\np*pw<=4096:=by
 obtain ⟨h1,h2,_,h4,h5⟩:=zaj h;exact ⟨Int.le_trans (show (128:Int)<=8*16 from by decide) (qcl h4 h1 (by decide) (by omega)),Int.le_trans (qcl h5 h2 (by omega) (by omega)) (by decide)⟩
theorem za1{pw np p:Int}(h:confB pw np=true)(h0:0<=p)(h1:p<np):0<=p*pw/\p*pw+pw<=np*pw:=by
 obtain ⟨h2,_⟩:=zaj h;have e:p*pw+pw=(p+1)*pw:=by rw [qa7,qa5]
 exact ⟨qa4 h0 (by omega),by rw [e];exact qaK (by omega) (by omega)⟩
theorem zim{pw np p o:Int}(h:confB pw np=true)(h1:inPg pw np p o=true):inAr pw np (4096+p*pw+o)=true/\(4096+p*pw+o-4096) / pw=p/\(4096+p*pw+o-4096) % pw=o:=by
 unfold inPg at h1;obtain ⟨a,b,c,d⟩:=qar h1;obtain ⟨e,f⟩:=za1 h a b;have g:=zaj h;have e1:4096+p*pw+o-4096=o+p*pw:=by omega
 refine ⟨qab (by omega),?_,?_⟩
 · rw [e1,qcD _ _ (by omega),qcC c d];omega
 · rw [e1,Int.add_mul_emod_self_right,Int.emod_eq_of_lt c d]
structure Pg where
 kind:Int
 space:Int
 used:Int
 pins:Int
 deriving DecidableEq
def Pg.zero:Pg:=⟨0,0,0,0⟩
theorem zar{ps:List Pg}{i:Nat}{x:Pg}(h:ps[i]?=some x):ps.getD i Pg.zero=x:=by rw [qaA,h];rfl
def zgq(sp:Int):List Pg->Nat
 | []=>0
 | x::r=>if x.kind=3/\x.space=sp then zgq sp r+1 else 0
def zbR:List Pg->Nat
 | []=>0
 | x::r=>(if x.kind=0 then 0 else 1)+zbR r
theorem zj3:∀ ps:List Pg,zbR ps<=ps.length
 | []=>qan _
 | x::r=>by have:=zj3 r;unfold zbR;rw [qaO];split <;> omega
theorem zjh:∀ a b:List Pg,zbR (a++b)=zbR a+zbR b
 | [],b=>by simp [zbR]
 | x::r,b=>by rw [qaJ,zbR,zbR,zjh r b];omega
theorem zti{ps:List Pg}{k:Nat}{x:Pg}(h:ps[k]?=some x):zbR (ps.take (k+1))=zbR (ps.take k)+if x.kind=0 then 0 else 1:=by
 rw [zbt h,zjh];simp [zbR]
def zd7(out:List (Int×Int))(k:Int)(x:Pg):List (Int×Int) :=
 if x.kind=0 then (match out.getLast? with | some r=>if r.1+r.2=k then out.dropLast++[(r.1,r.2+1)] else out++[(k,1)] | none=>[(k,1)]) else out
def zcs(ps:List Pg):Nat->List (Int×Int)
 | 0=>[]
 | k+1=>match ps[k]? with | some x=>zd7 (zcs ps k) k x | none=>zcs ps k
def zqp(ps:List Pg):List (Int×Int):=zcs ps ps.length
def zaC(ps:List Pg)(k:Int):Int:=match (zqp ps).find? (fun r=>decide (1<=k)&&decide (k<=r.2)) with | some r=>r.1 | none=>-1
def put(ps:List Pg)(i k:Nat)(x:Pg):List Pg:=ps.take i++List.replicate k x++ps.drop (i+k)
theorem zng(ps:List Pg)(i:Nat)(x:Pg):put ps i 0 x=ps:=by simp [put]
theorem zd8{ps:List Pg}{i k:Nat}{x:Pg}(h:i+k<=ps.length):(put ps i k x).length=ps.length:=by
 unfold put;rw [qaz,qaz,qax,qa2,qaM];omega
theorem zdn{ps:List Pg}{i k:Nat}{x:Pg}(h:i+k<=ps.length){j:Nat}(hj:i+k<=j\/j<i):(put ps i k x)[j]?=ps[j]?:=by
 unfold put;rcases hj with hj | hj
 · rw [qbJ (by rw [qaz,qax,qa2];omega),qba]
   congr 1
   rw [qaz,qax,qa2];omega
 · rw [qaG,qbx (by rw [qax];omega),qa8,if_pos hj]
theorem zkt{ps:List Pg}{i k:Nat}{x:Pg}(h:i+k<=ps.length){j:Nat}(h1:i<=j)(h2:j<i+k):(put ps i k x)[j]?=some x:=by
 unfold put;rw [qaG,qbJ (by rw [qax];omega),qbx (by rw [qax,qa2];omega),qbY,if_pos (by rw [qax];omega)]
theorem zvZ{ps:List Pg}{i k:Nat}{x:Pg}(h:i+k<ps.length):(put ps i k x).set (i+k) x=put ps i (k+1) x:=by
 apply qbn
 intro j;rw [qaP];have hl:(put ps i k x).length=ps.length:=zd8 (by omega)
 by_cases hj:i+k=j
 · rw [if_pos hj,if_pos (by omega),zkt (by omega) (by omega) (by omega)]
 · rw [if_neg hj];by_cases h1:i<=j/\j<i+k
   · rw [zkt (by omega) h1.1 h1.2,zkt (by omega) h1.1 (by omega)]
   · rw [zdn (by omega) (by omega),zdn (by omega) (by omega)]
def zcq(ps:List Pg)(i k:Nat):Bool:=((ps.drop i).take k).all fun x=>decide (x.kind=0)
theorem zcy(ps:List Pg)(i:Nat):zcq ps i 0=true:=by simp [zcq]
theorem zb2{ps:List Pg}{i k:Nat}{x:Pg}(h:ps[i+k]?=some x):zcq ps i (k+1)=(zcq ps i k&&decide (x.kind=0)):=by
 unfold zcq;rw [zbt (l:=ps.drop i) (k:=k) (x:=x) (by rw [qba];exact h),List.all_append]
 simp
theorem ztl{ps:List Pg}{i k m:Nat}(h:zcq ps i k=true)(hm:m<=k):zcq ps i m=true:=by
 unfold zcq at *
 rw [qaQ] at *
 intro x hx;refine h x ?_;rw [show (ps.drop i).take m=((ps.drop i).take k).take m from by rw [qbF,qbv hm]]at hx
 exact qb1 hx
def zgp(ps:List Pg)(i k:Int)(x y:Pg):List Pg:=if 0<=i/\i<ps.length/\k<=ps.length-i then (if zcq ps i.toNat k.toNat then (put ps i.toNat k.toNat y).set i.toNat x else []) else []
def zjw(ps:List Pg)(i k:Int):Int:=if 0<=i/\i<ps.length/\k<=ps.length-i then (if zcq ps i.toNat k.toNat then 0 else 20) else 2
def zcH(ps:List Pg)(i sp:Int):List Pg:=if 0<=sp/\sp<=1 then zgp ps i 1 ⟨1,sp,0,0⟩ Pg.zero else []
def zh8(ps:List Pg)(i sp:Int):Int:=if 0<=sp/\sp<=1 then zjw ps i 1 else 1
def zed(pw np:Int)(ps:List Pg)(i sp n:Int):List Pg:=if 1<=zax pw np n/\0<=sp/\sp<=1 then zgp ps i (zax pw np n) ⟨2,sp,n,0⟩ ⟨3,sp,0,0⟩ else []
def zgD(pw np:Int)(ps:List Pg)(i sp n:Int):Int:=if 1<=zax pw np n/\0<=sp/\sp<=1 then zjw ps i (zax pw np n) else 1
def zea(n:Int):Bool:=decide (0<=n/\n<=2147483647)
def zcc(pw np:Int)(x:Pg)(r:List Pg)(due:Int):Option Int :=
 if ¬(x.kind=3↔0<due)\/x.space<0\/1<x.space\/zea x.pins=false then none
 else if x.kind=0 then (if x=Pg.zero then some (max 0 (due-1)) else none)
 else if x.kind=1 then (if x.used<0\/pw<x.used then none else some (max 0 (due-1)))
 else if x.kind=2 then (if zax pw np x.used<1\/(zgq x.space r:Int)<zax pw np x.used-1 then none else some (max 0 (zax pw np x.used-1)))
 else if x.kind=3 then (if x.used=0/\x.pins=0 then some (max 0 (due-1)) else none)
 else none
def zaL(pw np:Int):List Pg->Int->Bool
 | [],_=>true
 | x::r,due=>match zcc pw np x r due with | some d=>zaL pw np r d | none=>false
def zdS(ps:List Pg)(b:Int):Bool:=decide (b = -1\/(0<=b/\b<ps.length/\(ps.getD b.toNat Pg.zero).kind=1))
def zc0(pw np:Int)(nw:Nat)(ps:List Pg)(sp b:Int):Bool :=
 confB pw np&&decide ((nw:Int)=np*pw)&&decide ((ps.length:Int)=np)&&decide (0<=sp/\sp<=1)&&zdS ps b&&zaL pw np ps 0
theorem zqW{pw n:Int}(h:n<=pw / 4):zeK pw n=0:=by unfold zeK;rw [if_pos h]
theorem ztc{pw n:Int}(hp:16<=pw)(h0:pw / 4<n)(h:4*pw<n):zeK pw n = -1:=by
 unfold zeK;rw [if_neg (by omega),if_neg (by omega),if_neg (by omega),if_neg (by omega),if_neg (by omega)]
theorem zfW{out:List (Int×Int)}{k:Int}{x:Pg}(h:¬x.kind=0):zd7 out k x=out:=by unfold zd7;rw [if_neg h]
theorem zeE{k:Int}{x:Pg}(h:x.kind=0):zd7 [] k x=[(k,1)]:=by unfold zd7;rw [if_pos h];rfl
theorem zdY{pre:List (Int×Int)}{r:Int×Int}{k:Int}{x:Pg}(h:x.kind=0)(he:r.1+r.2=k):zd7 (pre++[r]) k x=pre++[(r.1,r.2+1)]:=by
 unfold zd7;rw [if_pos h];simp [he]
theorem zeF{pre:List (Int×Int)}{r:Int×Int}{k:Int}{x:Pg}(h:x.kind=0)(he:¬r.1+r.2=k):zd7 (pre++[r]) k x=pre++[r]++[(k,1)]:=by
 unfold zd7;rw [if_pos h];simp [he]
theorem zeD{ps:List Pg}{k:Nat}{x:Pg}(h:ps[k]?=some x):zcs ps (k+1)=zd7 (zcs ps k) k x:=by
 rw [zcs,h]
theorem zia(out:List (Int×Int)):out=[]\/∃ pre r,out=pre++[r]:=by
 rcases qcH out with h | ⟨pre,r,h⟩
 · exact Or.inl h
 · exact Or.inr ⟨pre,r,by rw [h,qcz]⟩
theorem zqo(ps:List Pg):∀ (k:Nat) (r:Int×Int),r∈zcs ps k->0<=r.1/\1<=r.2/\r.1+r.2<=k
 | 0,r,h=>by simp [zcs]at h
 | k+1,r,h=>by
  have ih:=zqo ps k;cases hx:ps[k]? with
  | none=>
   rw [zcs,hx]at h;have:=ih r h;omega
  | some x=>
   rw [zeD hx]at h;by_cases h0:x.kind=0
   · rcases zia (zcs ps k) with e | ⟨pre,q,e⟩
     · rw [e,zeE h0]at h;simp at h;subst h;simp
     · rw [e]at h ih;have hq:=ih q (by simp)
       by_cases he:q.1+q.2=k
       · rw [zdY h0 he]at h;rcases qao.1 h with h | h
         · have:=ih r (qa6 _ h);omega
         · simp at h;subst h;simp;omega
       · rw [zeF h0 he]at h;rcases qao.1 h with h | h
         · have:=ih r h;omega
         · simp at h;subst h;simp
   · rw [zfW h0]at h;have:=ih r h;omega
theorem zna(ps:List Pg):∀ k:Nat,(zcs ps k).length<=k
 | 0=>qan _
 | k+1=>by
  have ih:=zna ps k;cases hx:ps[k]? with
  | none=>rw [zcs,hx];exact Nat.le_succ_of_le ih
  | some x=>
   rw [zeD hx];by_cases h0:x.kind=0
   · rcases zia (zcs ps k) with e | ⟨pre,q,e⟩
     · rw [e,zeE h0];simp
     · rw [e]at ih ⊢
       by_cases he:q.1+q.2=k
       · rw [zdY h0 he];simp at ih ⊢;omega
       · rw [zeF h0 he];simp at ih ⊢;omega
   · rw [zfW h0];omega
def zbv(k:Int):List (Int×Int)->Int
 | []=>-1
 | r::t=>if 1<=k/\k<=r.2 then r.1 else zbv k t
theorem zk4(ps:List Pg)(k:Int):zaC ps k=zbv k (zqp ps):=by
 unfold zaC;generalize zqp ps=l
 induction l with
 | nil=>rfl
 | cons r t ih=>
  rw [List.find?_cons,zbv];by_cases h:1<=k/\k<=r.2
  · rw [if_pos h];simp [h]
  · rw [if_neg h];have:(decide (1<=k)&&decide (k<=r.2))=false:=by simp;omega
    rw [this];exact ih
theorem zpz{k:Int}{l:List (Int×Int)}{i:Nat}{r:Int×Int}(h:l[i]?=some r):zbv k (l.drop i)=if 1<=k/\k<=r.2 then r.1 else zbv k (l.drop (i+1)):=by
 obtain ⟨hi,rfl⟩:=qah.1 h;rw [qaW hi,zbv]
theorem znQ{k:Int}{l:List (Int×Int)}{i:Nat}(h:l.length<=i):zbv k (l.drop i) = -1:=by
 rw [qbp h];rfl
theorem zvN{ps:List Pg}{i k:Int}{x y:Pg}(h:¬(0<=i/\i<ps.length/\k<=ps.length-i)):zgp ps i k x y=[]/\zjw ps i k=2:=by
 unfold zgp zjw;rw [if_neg h,if_neg h];exact ⟨rfl,rfl⟩
theorem zh5{ps:List Pg}{i k:Nat}{x y:Pg}(h:i<ps.length)(hk:i+k<=ps.length)(hf:zcq ps i k=true):zgp ps i k x y=(put ps i k y).set i x/\zjw ps i k=0:=by
 have hc:0<=(i:Int)/\(i:Int)<ps.length/\(k:Int)<=ps.length-i:=⟨by omega,by omega,by omega⟩
 unfold zgp zjw;rw [if_pos hc,if_pos hc,qad,qad,if_pos hf,if_pos hf];exact ⟨rfl,rfl⟩
theorem zmG{ps:List Pg}{i k m:Nat}{x:Pg}(hx:ps[i+m]?=some x)(hm:m<k)(h:¬x.kind=0):zcq ps i k=false:=by
 rw [<-qby];intro hf;have:=ztl hf (show m+1<=k from hm)
 rw [zb2 hx]at this;simp at this;exact h this.2
structure Hp where
 pw:Int
 np:Int
 words:List Int
 pages:List Pg
 space:Int
 bump:Int
def Hp.zero:Hp:=⟨0,0,[],[],0,0⟩
def WB(xs:List Int):Prop:=∀ x∈xs,0<=x/\x<18446744073709551616
theorem WB.zeros(n:Nat):WB (List.replicate n 0):=by
 intro x hx;obtain ⟨_,rfl⟩:=List.mem_replicate.1 hx;omega
theorem WB.nil:WB []:=fun x h=>by cases h
def zl2(pw np:Int):Hp:=if confB pw np then ⟨pw,np,List.replicate (np*pw).toNat 0,List.replicate np.toNat Pg.zero,0,-1⟩ else Hp.zero
def newHE(pw np:Int):Int:=if confB pw np then 0 else 1
theorem znD{pw np:Int}(h:confB pw np=true):zl2 pw np=⟨pw,np,List.replicate (np*pw).toNat 0,List.replicate np.toNat Pg.zero,0,-1⟩/\newHE pw np=0:=by
 unfold zl2 newHE;rw [if_pos h,if_pos h];exact ⟨rfl,rfl⟩
def zik(n:Int):Int:=2 ^ min n.toNat 64-1
def zil(n:Int):Nat:=2 ^ min n.toNat 64-1
theorem zv3(k:Nat)(h:k<=64):(2:Nat) ^ k<=18446744073709551616:=by
 have:(2:Nat) ^ k<=2 ^ 64:=qcb (by decide) h
 simpa using this
theorem zv2(k:Nat)(h:k<64):(2:Nat) ^ k<=9223372036854775808:=by
 have:(2:Nat) ^ k<=2 ^ 63:=qcb (by decide) (by omega)
 simpa using this
theorem znh(k:Nat):1<=(2:Nat) ^ k:=Nat.one_le_two_pow
theorem zhn(k:Nat):((2 ^ k:Nat):Int)=(2:Int) ^ k:=by rw [qcn];rfl
theorem zu4(k:Nat)(h:k<64):(2:Int) ^ k<=9223372036854775808:=by
 have:=zv2 k h;rw [<-zhn];omega
theorem zu3(k:Nat):1<=(2:Int) ^ k:=by
 have:=znh k;rw [<-zhn];omega
theorem zs2(n:Int):zik n=((zil n:Nat):Int):=by
 unfold zik zil;have:=znh (min n.toNat 64)
 rw [Int.natCast_sub this];simp
theorem zuH(n:Int)(h:n<0):zik n=0:=by
 unfold zik;have:n.toNat=0:=by omega
 simp [this]
theorem zwe(n:Int):zil n<18446744073709551616:=by
 unfold zil;have:=zv3 (min n.toNat 64) (by omega);have:=znh (min n.toNat 64);omega
theorem shr_lt(x k:Nat)(hx:x<18446744073709551616):x >>> k<18446744073709551616:=by
 rw [qbW];exact Nat.lt_of_le_of_lt (Nat.div_le_self _ _) hx
theorem zkb(v:Nat)(n:Int):v &&& zil n=v % 2 ^ min n.toNat 64:=by
 unfold zil;exact Nat.and_two_pow_sub_one_eq_mod v _
def fitL:Int->List Int->Bool
 | _,[]=>true
 | left,x::r=>if x<1\/left<x then false else fitL (left-x) r
theorem zvd{left x:Int}{ws:List Int}{k:Nat}(hx:ws[k]?=some x)(h:x<1\/left<x):fitL left (ws.drop k)=false:=by
 obtain ⟨hk,rfl⟩:=qah.1 hx;rw [qaW hk,fitL,if_pos h]
theorem zww{left x:Int}{ws:List Int}{k:Nat}(hx:ws[k]?=some x)(h1:¬x<1)(h2:¬left<x):fitL left (ws.drop k)=fitL (left-x) (ws.drop (k+1)):=by
 obtain ⟨hk,rfl⟩:=qah.1 hx;rw [qaW hk,fitL,if_neg (by omega)]
theorem zwx{left:Int}{ws:List Int}{k:Nat}(hk:ws.length<=k):fitL left (ws.drop k)=true:=by
 rw [qbp hk,fitL]
theorem zve{left x:Int}{r:List Int}(h:fitL left (x::r)=true):1<=x/\x<=left/\fitL (left-x) r=true:=by
 rw [fitL]at h;by_cases c:x<1\/left<x
 · rw [if_pos c]at h;cases h
 · rw [if_neg c]at h;exact ⟨by omega,by omega,h⟩
def sumW:List Int->Nat
 | []=>0
 | x::r=>x.toNat+sumW r
theorem zss:∀ (ws:List Int) (left:Int),0<=left->fitL left ws=true->∀ x∈ws,1<=x/\x<=left
 | [],_,_,_,x,hx=>by cases hx
 | y::r,left,h,hf,x,hx=>by
  obtain ⟨h1,h2,h3⟩:=zve hf;rcases qas.1 hx with rfl | hx
  · exact ⟨h1,h2⟩
  · have:=zss r (left-y) (by omega) h3 x hx
    omega
def okF(fs:List (Int×Nat)):Bool:=fs.all fun f=>decide ((f.2:Int)<=zik f.1)
def zaD(k n m:Int):Bool:=decide (0<=k/\k<=3/\0<=n/\n<=255/\(k=1->n<=32/\m<2 ^ n.toNat)/\(¬k=1->m=0))
theorem zaE{k n m:Int}(h:zaD k n m=true):0<=k/\k<=3/\0<=n/\n<=255/\(k=1->n<=32/\m<2 ^ n.toNat)/\(¬k=1->m=0):=by
 unfold zaD at h;exact qar h
theorem zgS{k n m:Int}(h:0<=k/\k<=3/\0<=n/\n<=255/\(k=1->n<=32/\m<2 ^ n.toNat)/\(¬k=1->m=0)):zaD k n m=true:=by
 unfold zaD;exact qab h
theorem zcC{k n m:Int}(h:¬(0<=k/\k<=3/\0<=n/\n<=255/\(k=1->n<=32/\m<2 ^ n.toNat)/\(¬k=1->m=0))):zaD k n m=false:=by
 unfold zaD;exact qaj h
theorem zv4(n:Int)(h:n<=32):(2:Int) ^ n.toNat<=4294967296:=by
 have:(2:Nat) ^ n.toNat<=2 ^ 32:=qcb (by decide) (by omega)
 rw [<-zhn];omega
theorem zke{k n m:Int}(h:zaD k n m=true):m<4294967296:=by
 obtain ⟨h1,h2,h3,h4,h5,h6⟩:=zaE h;by_cases c:k=1
 · obtain ⟨h7,h8⟩:=h5 c;have:=zv4 n h7;omega
 · have:=h6 c;omega
def zcU(k n m:Int):Int:=1+4*k+16*n+65536*m
def encV(k n m:Int):Int:=if zaD k n m then zcU k n m else 0
def encE(k n m:Int):Int:=if zaD k n m then 0 else 1
theorem zvk{k n m:Int}(h:zaD k n m=true):encV k n m=zcU k n m/\encE k n m=0:=by
 unfold encV encE;rw [if_pos h,if_pos h];exact ⟨rfl,rfl⟩
theorem zkc{k n m:Int}(h:zaD k n m=true)(hm:0<=m):0<=zcU k n m/\zcU k n m<281474976710656:=by
 have:=zke h
 obtain ⟨h1,h2,h3,h4,h5,h6⟩:=zaE h;unfold zcU;omega
def dK(x:Nat):Nat:=x / 4 % 4
def dN(x:Nat):Nat:=x / 16 % 4096
def dM(x:Nat):Nat:=x / 65536 % 4294967296
def okD(x:Nat):Bool:=decide (x % 4=1)&&decide (x<281474976710656)&&zaD (dK x) (dN x) (dM x)
def decK(x:Nat):Int:=if okD x then dK x else 0
def decN(x:Nat):Int:=if okD x then dN x else 0
def decM(x:Nat):Int:=if okD x then dM x else 0
theorem zmN{x:Nat}(h:okD x=true):decK x=dK x/\decN x=dN x/\decM x=dM x:=by
 unfold decK decN decM;rw [if_pos h,if_pos h,if_pos h];exact ⟨rfl,rfl,rfl⟩
theorem zpD{x:Nat}(h:okD x=false):decK x=0/\decN x=0/\decM x=0:=by
 unfold decK decN decM;rw [if_neg (by simp [h]),if_neg (by simp [h]),if_neg (by simp [h])];exact ⟨rfl,rfl,rfl⟩
theorem zcK{x:Nat}(h:okD x=true):x % 4=1/\x<281474976710656/\zaD (dK x) (dN x) (dM x)=true:=by
 unfold okD at h;simp only [qae,qaa]at h;exact ⟨h.1.1,h.1.2,h.2⟩
theorem zwZ{x:Nat}(h1:x % 4=1)(h2:x<281474976710656)(h3:zaD (dK x) (dN x) (dM x)=true):okD x=true:=by
 unfold okD;simp only [qae,qaa];exact ⟨⟨h1,h2⟩,h3⟩
theorem zuI{x:Nat}(h:¬x % 4=1\/¬x<281474976710656\/zaD (dK x) (dN x) (dM x)=false):okD x=false:=by
 rw [<-qby];intro c;obtain ⟨h1,h2,h3⟩:=zcK c
 rcases h with h | h | h
 · exact h h1
 · exact h h2
 · rw [h3]at h;cases h
theorem zwC{x:Nat}(h:okD x=true):zcU (dK x) (dN x) (dM x)=x:=by
 obtain ⟨h1,h2,h3⟩:=zcK h;obtain ⟨_,_,_,h4,_,_⟩:=zaE h3;unfold zcU dK dN dM at *;omega
theorem zjW{k n m:Int}(h:zaD k n m=true)(hm:0<=m){x:Nat}(hx:zcU k n m=x):okD x=true/\(dK x:Int)=k/\(dN x:Int)=n/\(dM x:Int)=m:=by
 have hm2:=zke h;obtain ⟨h1,h2,h3,h4,h5,h6⟩:=zaE h;have e1:(dK x:Int)=k:=by unfold zcU at hx;unfold dK;omega
 have e2:(dN x:Int)=n:=by unfold zcU at hx;unfold dN;omega
 have e3:(dM x:Int)=m:=by unfold zcU at hx;unfold dM;omega
 refine ⟨zwZ ?_ ?_ ?_,e1,e2,e3⟩
 · unfold zcU at hx;omega
 · unfold zcU at hx;omega
 · rw [e1,e2,e3];exact h
theorem zm1{x:Nat}:okD x=true↔zaD (dK x) (dN x) (dM x)=true/\zcU (dK x) (dN x) (dM x)=x :=
 ⟨fun h=>⟨(zcK h).2.2,zwC h⟩,fun h=>(zjW h.1 (Int.natCast_nonneg _) h.2).1⟩
def fwdV(a:Int):Int:=if a<4294967296 then 4*a+2 else 0
def fwdE(a:Int):Int:=if a<4294967296 then 0 else 1
theorem zw4{a:Int}(h:a<4294967296):fwdV a=4*a+2/\fwdE a=0:=by
 unfold fwdV fwdE;rw [if_pos h,if_pos h];exact ⟨rfl,rfl⟩
def okT(x:Nat):Bool:=decide (x % 4=2)&&decide (x<17179869184)
def tgtV(x:Nat):Int:=if okT x then ((x / 4:Nat):Int) else 0
theorem zoN{x:Nat}(h:okT x=true):x % 4=2/\x<17179869184:=by
 unfold okT at h;simp only [qae,qaa]at h;exact h
theorem okT_mk{x:Nat}(h1:x % 4=2)(h2:x<17179869184):okT x=true:=by
 unfold okT;simp only [qae,qaa];exact ⟨h1,h2⟩
theorem zwT{x:Nat}(h:okT x=true):tgtV x=((x / 4:Nat):Int):=by unfold tgtV;rw [if_pos h]
theorem zwU{x:Nat}(h:okT x=false):tgtV x=0:=by unfold tgtV;rw [if_neg (by simp [h])]
theorem apart(x:Nat):¬(okD x=true/\okT x=true):=by
 rintro ⟨h,k⟩;have:=(zcK h).1;have:=(zoN k).1;omega
def zaT(k n m:Int):Int:=if zaD k n m then n+1 else 0
theorem zbs{k n m:Int}(h:zaD k n m=true):zaT k n m=n+1:=by unfold zaT;rw [if_pos h]
theorem zqn{k n m:Int}(h:zaD k n m=false):zaT k n m=0:=by unfold zaT;rw [if_neg (by simp [h])]
def ptrB(k n m i:Int):Bool:=zaD k n m&&decide (0<=i)&&decide (i<n)&&(decide (k=2) || (decide (k=1)&&m.toNat.testBit i.toNat))
def zdk(k n m:Int)(j:Nat):List Int:=((List.range j).map Int.ofNat).filter (fun i=>ptrB k n m i)
def zel(k n m:Int):List Int:=if zaD k n m then zdk k n m n.toNat else []
theorem zkv(k n m:Int)(j:Nat):zdk k n m (j+1)=if ptrB k n m j then zdk k n m j++[(j:Int)] else zdk k n m j:=by
 unfold zdk;rw [List.range_succ,qbP,qct];by_cases h:ptrB k n m j=true
 · rw [if_pos h];have:([j].map Int.ofNat).filter (fun i=>ptrB k n m i)=[(j:Int)]:=by simp [h]
   rw [this]
 · rw [if_neg h];have:([j].map Int.ofNat).filter (fun i=>ptrB k n m i)=[]:=by simp [h]
   rw [this,qa1]
theorem zsW(k n m:Int)(j:Nat):(zdk k n m j).length<=j:=by
 unfold zdk;refine qaF (qbM _ _) ?_;simp
theorem zsV{k n m:Int}{j:Nat}{x:Int}(h:x∈zdk k n m j):ptrB k n m x=true:=(qbC.1 h).2
theorem zku{k n m:Int}{x:Int}(h:x∈zel k n m):ptrB k n m x=true:=by
 unfold zel at h;by_cases c:zaD k n m=true
 · rw [if_pos c]at h;exact zsV h
 · rw [if_neg c]at h;cases h
theorem zus{k n m:Int}(h:zaD k n m=true):zel k n m=zdk k n m n.toNat:=by unfold zel;rw [if_pos h]
theorem zut{k n m:Int}(h:zaD k n m=false):zel k n m=[]:=by unfold zel;rw [if_neg (by simp [h])]
def okA(len:Nat)(a:Int)(n:Nat):Bool:=decide (4096<=a/\a-4096+n<=len)
theorem znm(i:Nat):((4096+(i:Int))-4096).toNat=i:=by omega
def zkW(len:Nat)(a:Int):Int:=if okA len a 1 then a-4096 else 0
def zkX(len:Nat)(a:Int):Int:=if okA len a 1 then 0 else 2
def zao(xs:List Int)(a:Int):Int:=if okA xs.length a 1 then xs.getD (a-4096).toNat 0 else 0
def zkT(xs:List Int)(a:Int):Int:=if okA xs.length a 1 then 0 else 2
def zks(xs:List Int)(a n:Int):List Int:=if n<0 then [] else if okA xs.length a n.toNat then (xs.drop (a-4096).toNat).take n.toNat else []
def zne(xs:List Int)(a n:Int):Int:=if n<0 then 1 else if okA xs.length a n.toNat then 0 else 2
def zaz(xs:List Int)(a:Int)(l:List Int):List Int:=if okA xs.length a l.length then splice xs (a-4096).toNat l else []
def ze3(xs:List Int)(a:Int)(l:List Int):Int:=if okA xs.length a l.length then 0 else 2
def zeL(xs:List Int)(t f n:Int):List Int:=if n<0 then [] else if okA xs.length t n.toNat/\okA xs.length f n.toNat then splice xs (t-4096).toNat ((xs.drop (f-4096).toNat).take n.toNat) else []
def moveE(xs:List Int)(t f n:Int):Int:=if n<0 then 1 else if okA xs.length t n.toNat/\okA xs.length f n.toNat then 0 else 2
theorem nneg(n:Nat):¬((n:Int)<0):=by omega
theorem index_ok{len i:Nat}(h:okA len (4096+(i:Int)) 1=true):zkW len (4096+(i:Int))=i/\zkX len (4096+(i:Int))=0:=by
 unfold zkW zkX;rw [if_pos h,if_pos h];exact ⟨by omega,rfl⟩
theorem zwk{xs:List Int}{i:Nat}{x:Int}(h:okA xs.length (4096+(i:Int)) 1=true)(hx:xs[i]?=some x):zao xs (4096+(i:Int))=x/\zkT xs (4096+(i:Int))=0:=by
 unfold zao zkT;rw [if_pos h,if_pos h,znm,qaA,hx];exact ⟨rfl,rfl⟩
theorem zvX{xs:List Int}{a n:Int}(h:n<0):zks xs a n=[]/\zne xs a n=1:=by
 unfold zks zne;rw [if_pos h,if_pos h];exact ⟨rfl,rfl⟩
theorem read_ok{xs:List Int}{i n:Nat}(h:okA xs.length (4096+(i:Int)) n=true):zks xs (4096+(i:Int)) n=(xs.drop i).take n/\zne xs (4096+(i:Int)) n=0:=by
 unfold zks zne;rw [if_neg (nneg n),if_neg (nneg n),qad,if_pos h,if_pos h,znm];exact ⟨rfl,rfl⟩
theorem read_no{xs:List Int}{a:Int}{n:Nat}(h:okA xs.length a n=false):zks xs a n=[]/\zne xs a n=2:=by
 unfold zks zne;rw [if_neg (nneg n),if_neg (nneg n),qad,if_neg (by simp [h]),if_neg (by simp [h])];exact ⟨rfl,rfl⟩
theorem zrT{xs l:List Int}{i:Nat}(h:okA xs.length (4096+(i:Int)) l.length=true):zaz xs (4096+(i:Int)) l=splice xs i l/\ze3 xs (4096+(i:Int)) l=0:=by
 unfold zaz ze3;rw [if_pos h,if_pos h,znm];exact ⟨rfl,rfl⟩
theorem zvJ{xs l:List Int}{a:Int}(h:okA xs.length a l.length=false):zaz xs a l=[]/\ze3 xs a l=2:=by
 unfold zaz ze3;rw [if_neg (by simp [h]),if_neg (by simp [h])];exact ⟨rfl,rfl⟩
theorem zcX{xs l:List Int}{i:Nat}(h:i+l.length<=xs.length):(splice xs i l).length=xs.length:=length_splice xs i l h
theorem zdj{xs l:List Int}{i j:Nat}(h:i+l.length<=xs.length)(h1:i<=j)(h2:j<i+l.length):(splice xs i l)[j]?=l[j-i]?:=by
 unfold splice;have e:(xs.take i).length=i:=by rw [qax];omega
 rw [qbJ (by omega),e,qbx (by omega)]
theorem zei{xs l:List Int}{i j:Nat}(h:i+l.length<=xs.length)(h1:j<i\/i+l.length<=j):(splice xs i l)[j]?=xs[j]?:=by
 unfold splice;have e:(xs.take i).length=i:=by rw [qax];omega
 rcases h1 with h1 | h1
 · rw [qbx (by omega),qa8,if_pos h1]
 · rw [qbJ (by omega),e,qbJ (by omega),qba]
   congr 1;omega
structure Hd where
 k:Int
 n:Int
 m:Int
 deriving DecidableEq
def Hd.zero:Hd:=⟨0,0,0⟩
def okH(h:Hp):Bool:=zc0 h.pw h.np h.words.length h.pages h.space h.bump
def zct(h:Hp)(a:Int):Pg:=h.pages.getD (ofI h.pw h.np a).toNat Pg.zero
def zap(h:Hp)(a:Int):Nat:=(h.words.getD (a-4096).toNat 0).toNat
def hdOf(x:Nat):Hd:=⟨dK x,dN x,dM x⟩
def atB(h:Hp)(a:Int):Bool :=
 decide ((zct h a).kind=1\/(zct h a).kind=2)&&decide (ofK h.pw h.np a<(zct h a).used)&&okD (zap h a) &&
 (if (zct h a).kind=1 then decide (ofK h.pw h.np a+(dN (zap h a)+1)<=(zct h a).used) else decide (ofK h.pw h.np a=0/\(dN (zap h a):Int)+1=(zct h a).used))
def atE(h:Hp)(a:Int):Int:=if okH h then (if ofE h.pw h.np a=0 then (if atB h a then 0 else 19) else 2) else 1
def atH(h:Hp)(a:Int):Hd:=if atE h a=0 then hdOf (zap h a) else Hd.zero
def getE(h:Hp)(a:Int):Int:=if okH h then (if a=0 then 5 else if atE h a=0/\(atH h a).k=0 then 4 else atE h a) else 1
def getH(h:Hp)(a:Int):Hd:=if getE h a=0 then atH h a else Hd.zero
def zjk(h:Hp)(a i:Int):Int:=if getE h a=0 then (if i<0\/(getH h a).n<=i then 2 else zkT h.words (a+1+i)) else getE h a
def zw5(h:Hp)(a i:Int):Int:=if getE h a=0 then (if i<0\/(getH h a).n<=i then 0 else zao h.words (a+1+i)) else 0
def setE(h:Hp)(a i:Int):Int:=zjk h a i
def setV(h:Hp)(a i v:Int):Hp:=if zjk h a i=0 then { h with words:=zaz h.words (a+1+i) [v] } else Hp.zero
theorem zan{h:Hp}(hp:okH h=true):confB h.pw h.np=true/\(h.words.length:Int)=h.np*h.pw/\(h.pages.length:Int)=h.np/\0<=h.space/\h.space<=1/\zdS h.pages h.bump=true/\zaL h.pw h.np h.pages 0=true:=by
 unfold okH zc0 at hp;simp only [qae,qaa]at hp;obtain ⟨⟨⟨⟨⟨h1,h2⟩,h3⟩,h4⟩,h5⟩,h6⟩:=hp;exact ⟨h1,h2,h3,h4.1,h4.2,h5,h6⟩
theorem zaI(pw np:Int):∀ (ps:List Pg) (due:Int),zaL pw np ps due=true->∀ x∈ps,0<=x.space/\x.space<=1/\0<=x.pins/\x.pins<=2147483647/\(x.kind=0->x=Pg.zero)/\(x.kind=1->0<=x.used/\x.used<=pw)/\(x.kind=2->1<=zax pw np x.used)/\(x.kind=3->x.used=0/\x.pins=0)/\(x.kind=0\/x.kind=1\/x.kind=2\/x.kind=3)
 | [],_,_,x,hx=>by cases hx
 | y::r,due,h,x,hx=>by
  rw [zaL]at h;cases hs:zcc pw np y r due with
  | none=>rw [hs]at h;cases h
  | some d=>
   rw [hs]at h;rcases qas.1 hx with rfl | hx
   · unfold zcc at hs;split at hs
     · cases hs
     · rename_i hA;have h1:0<=x.space:=by omega
       have h2:x.space<=1:=by omega
       have h3:zea x.pins=true:=by
        cases hp:zea x.pins
        · exact absurd (Or.inr (Or.inr (Or.inr hp))) hA
        · rfl
       have h4:=qar h3;refine ⟨h1,h2,h4.1,h4.2,?_⟩;split at hs
       · rename_i k;refine ⟨fun _=>?_,fun c=>by omega,fun c=>by omega,fun c=>by omega,Or.inl k⟩
         split at hs
         · assumption
         · cases hs
       · split at hs
         · rename_i k;refine ⟨fun c=>by omega,fun _=>?_,fun c=>by omega,fun c=>by omega,Or.inr (Or.inl k)⟩
           split at hs
           · cases hs
           · omega
         · split at hs
           · rename_i k;refine ⟨fun c=>by omega,fun c=>by omega,fun _=>?_,fun c=>by omega,Or.inr (Or.inr (Or.inl k))⟩
             split at hs
             · cases hs
             · omega
           · split at hs
             · rename_i k;refine ⟨fun c=>by omega,fun c=>by omega,fun c=>by omega,fun _=>?_,Or.inr (Or.inr (Or.inr k))⟩
               split at hs
               · assumption
               · cases hs
             · cases hs
   · exact zaI pw np r d h x hx
theorem zuJ{h:Hp}{a:Int}(hp:okH h=true)(he:ofE h.pw h.np a=0):inAr h.pw h.np a=true/\(∃ i j:Nat,ofI h.pw h.np a=i/\ofK h.pw h.np a=j/\i<h.pages.length/\(j:Int)<h.pw/\a=4096+i*h.pw+j)/\(∃ t:Nat,a=4096+t/\t<h.words.length):=by
 obtain ⟨h1,h2,h3,_⟩:=zan hp;have hc:=zaj h1;have hin:inAr h.pw h.np a=true:=by
  cases hi:inAr h.pw h.np a
  · rw [(ze6 h1 hi).2.2]at he;cases he
  · rfl
 obtain ⟨e1,e2,_⟩:=zg5 h1 hin;obtain ⟨b1,b2⟩:=qar hin;have m1:=Int.emod_nonneg (a-4096) (show h.pw≠0 by omega)
 have m2:=Int.emod_lt_of_pos (a-4096) (show 0<h.pw by omega)
 have d1:0<=(a-4096) / h.pw:=qbS (by omega) (by omega)
 have d2:(a-4096) / h.pw<h.np:=qcs (by omega) (by omega)
 have de:=Int.mul_ediv_add_emod (a-4096) h.pw;refine ⟨hin,⟨((a-4096) / h.pw).toNat,((a-4096) % h.pw).toNat,by rw [e1];omega,by rw [e2];omega,by omega,by omega,?_⟩,⟨(a-4096).toNat,by omega,by omega⟩⟩
 rw [qco d1,qco m1,Int.mul_comm];omega
theorem zqt{pw np:Int}{ps:List Pg}{k:Nat}{x:Pg}(h:ps[k]?=some x)(due:Int):zaL pw np (ps.drop k) due=match zcc pw np x (ps.drop (k+1)) due with | some d=>zaL pw np (ps.drop (k+1)) d | none=>false:=by
 obtain ⟨hk,rfl⟩:=qah.1 h;rw [qaW hk,zaL]
theorem zoB{pw np:Int}{nw:Nat}{ps:List Pg}{sp b:Int}(h1:confB pw np=true)(h2:(nw:Int)=np*pw)(h3:(ps.length:Int)=np)(h4:0<=sp)(h5:sp<=1)(h6:zdS ps b=true):zc0 pw np nw ps sp b=zaL pw np ps 0:=by
 unfold zc0;simp [h1,h2,h3,h4,h5,h6]
def wrow(xs l:List Int)(i k:Nat):List Int:=splice xs i (l.take k)
theorem zm0{xs l:List Int}{i k:Nat}(h:i+l.length<=xs.length):(wrow xs l i k).length=xs.length:=by
 unfold wrow;rw [zcX (by rw [qax];omega)]
theorem zoo(xs l:List Int)(i:Nat):wrow xs l i 0=xs:=by unfold wrow splice;simp
theorem zrS{xs l:List Int}{i k:Nat}(h:l.length<=k):wrow xs l i k=splice xs i l:=by unfold wrow;rw [qbc h]
theorem zrR{xs l:List Int}{i k:Nat}{x:Int}(h:i+l.length<=xs.length)(hx:l[k]?=some x):(wrow xs l i k).set (i+k) x=wrow xs l i (k+1):=by
 have hk:=(qah.1 hx).1;apply qbn
 intro j;have hl1:(l.take k).length=k:=by rw [qax];omega
 have hl2:(l.take (k+1)).length=k+1:=by rw [qax];omega
 rw [qaP];by_cases h1:i+k=j
 · subst h1;rw [if_pos rfl,if_pos (by rw [zm0 h];omega)]
   unfold wrow;rw [zdj (by omega) (by omega) (by omega),qa8,if_pos (by omega),show i+k-i=k from by omega,hx]
 · rw [if_neg h1];unfold wrow;by_cases h2:i<=j/\j<i+k
   · rw [zdj (by omega) (by omega) (by omega),zdj (by omega) (by omega) (by omega),qa8,qa8,if_pos (by omega),if_pos (by omega)]
   · rw [zei (by omega) (by omega),zei (by omega) (by omega)]
theorem zuq(xs:List Int)(a m:Int):(zks xs a m).length<=xs.length:=by
 unfold zks;by_cases h1:m<0
 · rw [if_pos h1];exact qbb _
 · rw [if_neg h1];by_cases h2:okA xs.length a m.toNat=true
   · rw [if_pos h2,qax,qaM];omega
   · rw [if_neg h2];exact qbb _
theorem zrg{h:Hp}{a:Int}(h1:okH h=false):atE h a=1/\atH h a=Hd.zero:=by
 have e:atE h a=1:=by unfold atE;rw [if_neg (by simp [h1])]
 exact ⟨e,by unfold atH;rw [if_neg (by rw [e];decide)]⟩
theorem ziJ{h:Hp}{a:Int}(h1:okH h=true)(h2:¬ofE h.pw h.np a=0):atE h a=2/\atH h a=Hd.zero:=by
 have e:atE h a=2:=by unfold atE;rw [if_pos h1,if_neg h2]
 exact ⟨e,by unfold atH;rw [if_neg (by rw [e];decide)]⟩
theorem zpO{h:Hp}{a:Int}(h1:okH h=true)(h2:ofE h.pw h.np a=0)(h3:atB h a=false):atE h a=19/\atH h a=Hd.zero:=by
 have e:atE h a=19:=by unfold atE;rw [if_pos h1,if_pos h2,if_neg (by simp [h3])]
 exact ⟨e,by unfold atH;rw [if_neg (by rw [e];decide)]⟩
theorem zmQ{h:Hp}{a:Int}(h1:okH h=true)(h2:ofE h.pw h.np a=0)(h3:atB h a=true):atE h a=0/\atH h a=hdOf (zap h a):=by
 have e:atE h a=0:=by unfold atE;rw [if_pos h1,if_pos h2,if_pos h3]
 exact ⟨e,by unfold atH;rw [if_pos e]⟩
theorem word_of{h:Hp}{a:Int}(hw:WB h.words)(hp:okH h=true)(he:ofE h.pw h.np a=0):zao h.words a=zap h a/\zkT h.words a=0/\zap h a<18446744073709551616:=by
 obtain ⟨_,_,t,rfl,ht⟩:=zuJ hp he;have hx:h.words[t]?=some (h.words[t]):=qal ht
 have hk:okA h.words.length (4096+(t:Int)) 1=true:=qab (by omega)
 obtain ⟨e1,e2⟩:=zwk hk hx;obtain ⟨b1,b2⟩:=hw _ (qbU ht);have e3:zap h (4096+(t:Int))=(h.words[t]).toNat:=by unfold zap;rw [znm,qaA,hx];rfl
 rw [e1,e2,e3];exact ⟨by omega,rfl,by omega⟩
theorem zho{h:Hp}{a:Int}(e:¬getE h a=0):getH h a=Hd.zero:=by unfold getH;rw [if_neg e]
theorem zsp{h:Hp}{a:Int}(h1:okH h=false):getE h a=1/\getH h a=Hd.zero:=by
 have e:getE h a=1:=by unfold getE;rw [if_neg (by simp [h1])]
 exact ⟨e,zho (by rw [e];decide)⟩
theorem zpt{h:Hp}(h1:okH h=true):getE h 0=5/\getH h 0=Hd.zero:=by
 have e:getE h 0=5:=by unfold getE;rw [if_pos h1,if_pos rfl]
 exact ⟨e,zho (by rw [e];decide)⟩
theorem zpu{h:Hp}{a:Int}(h1:okH h=true)(h2:¬a=0)(h3:atE h a=0)(h4:(atH h a).k=0):getE h a=4/\getH h a=Hd.zero:=by
 have e:getE h a=4:=by unfold getE;rw [if_pos h1,if_neg h2,if_pos ⟨h3,h4⟩]
 exact ⟨e,zho (by rw [e];decide)⟩
theorem zq3{h:Hp}{a:Int}(h1:okH h=true)(h2:¬a=0)(h3:¬(atE h a=0/\(atH h a).k=0)):getE h a=atE h a/\getH h a=atH h a:=by
 have e:getE h a=atE h a:=by unfold getE;rw [if_pos h1,if_neg h2,if_neg h3]
 refine ⟨e,?_⟩;unfold getH;by_cases h4:getE h a=0
 · rw [if_pos h4]
 · rw [if_neg h4];rw [e]at h4;unfold atH;rw [if_neg h4]
theorem znL{h:Hp}{a:Int}(e:getE h a=0):okH h=true/\atE h a=0/\getH h a=atH h a/\ofE h.pw h.np a=0/\atB h a=true/\4096<=a/\a<8192/\0<=(getH h a).n/\(getH h a).n<=255/\¬(getH h a).k=0:=by
 have h1:okH h=true:=by
  cases h1:okH h
  · rw [(zsp (a:=a) h1).1]at e;cases e
  · rfl
 have h2:¬a=0:=by intro h2;subst h2;rw [(zpt h1).1]at e;cases e
 have h3:¬(atE h a=0/\(atH h a).k=0):=by rintro ⟨h3,h4⟩;rw [(zpu h1 h2 h3 h4).1]at e;cases e
 obtain ⟨e1,e2⟩:=zq3 h1 h2 h3;have h4:atE h a=0:=by rw [<-e1];exact e
 have h5:ofE h.pw h.np a=0:=by
  by_cases h5:ofE h.pw h.np a=0
  · exact h5
  · rw [(ziJ h1 h5).1]at h4;cases h4
 have h6:atB h a=true:=by
  cases h6:atB h a
  · rw [(zpO h1 h5 h6).1]at h4;cases h4
  · rfl
 obtain ⟨hin,_,t,ht,htl⟩:=zuJ h1 h5;obtain ⟨g1,g2,_⟩:=zan h1;have:=(conf_prod g1).2
 have hok:okD (zap h a)=true:=by
  unfold atB at h6;simp only [qae]at h6;exact h6.1.2
 have hv:=zaE (zcK hok).2.2;have hH:getH h a=hdOf (zap h a):=by rw [e2,(zmQ h1 h5 h6).2]
 refine ⟨h1,h4,e2,h5,h6,by omega,by omega,?_,?_,?_⟩
 · rw [hH];exact hv.2.2.1
 · rw [hH];exact hv.2.2.2.1
 · rw [e2];intro c;exact h3 ⟨h4,c⟩
theorem zoq{xs l:List Int}{i:Nat}(h:WB xs)(hl:WB l):WB (splice xs i l):=by
 intro x hx;unfold splice at hx;rcases qao.1 hx with hx | hx
 · exact h x (qb1 hx)
 · rcases qao.1 hx with hx | hx
   · exact hl x hx
   · exact h x (qb8 hx)
theorem zdv{xs l:List Int}{a:Int}(h:WB xs)(hl:WB l):WB (zaz xs a l):=by
 unfold zaz;split
 · exact zoq h hl
 · exact WB.nil
def zch(k n m:Int):List Int:=zcU k n m::List.replicate n.toNat 0
def zgE(h:Hp)(a k n m:Int):Int:=if zaD k n m=true/\okH h=true then ze3 h.words a (zch k n m) else 1
def zjG(h:Hp)(a k n m:Int):Hp:=if zgE h a k n m=0 then { h with words:=zaz h.words a (zch k n m) } else Hp.zero
theorem zep{k n m:Int}:(zch k n m).length=n.toNat+1:=by unfold zch;rw [qaO,qa2]
theorem zsi{k n m:Int}(h:zaD k n m=true)(hm:0<=m):WB (zch k n m):=by
 intro x hx;rcases qas.1 hx with rfl | hx
 · have:=zkc h hm;omega
 · exact WB.zeros _ x hx
def zvi(h:Hp)(a:Int):Int:=if getE h a=0 then zne h.words (a+1) (getH h a).n else getE h a
def ziD(h:Hp)(a:Int):List Int:=if getE h a=0 then zks h.words (a+1) (getH h a).n else []
theorem zln(pw np p o:Int):0<=za7 pw np p o/\za7 pw np p o<18446744073709551616:=by
 cases h:confB pw np
 · unfold za7;rw [h];simp
 · cases h1:inPg pw np p o
   · rw [(zn5 h h1).1];omega
   · rw [(zdN h h1).1];have hc:=conf_prod h;obtain ⟨a1,a2,a3,a4⟩:=qar h1;obtain ⟨c1,c2,_⟩:=zaj h;have e1:p*pw<=(np-1)*pw:=qaK (by omega) (by omega)
     have e2:(np-1)*pw=np*pw-pw:=by rw [Int.sub_mul,qa5]
     have e3:0<=p*pw:=qa4 a1 (by omega)
     omega
theorem zdT{h:Hp}{a:Int}(e:atE h a=0):okH h=true/\zaD (atH h a).k (atH h a).n (atH h a).m=true/\0<=(atH h a).m/\(atH h a).m<4294967296/\0<=(atH h a).n/\(atH h a).n<=255:=by
 have h1:okH h=true:=by
  cases h1:okH h
  · unfold atE at e;rw [h1]at e;simp at e
  · rfl
 have h5:ofE h.pw h.np a=0:=by
  by_cases h5:ofE h.pw h.np a=0
  · exact h5
  · rw [(ziJ h1 h5).1]at e;cases e
 have h6:atB h a=true:=by
  cases h6:atB h a
  · rw [(zpO h1 h5 h6).1]at e;cases e
  · rfl
 have hok:okD (zap h a)=true:=by
  unfold atB at h6;simp only [qae]at h6;exact h6.1.2
 have hv:=(zcK hok).2.2;have hp:=zaE hv;have hm:=zke hv;rw [(zmQ h1 h5 h6).2];exact ⟨h1,hv,Int.natCast_nonneg _,hm,hp.2.2.1,hp.2.2.2.1⟩
theorem zxa{h:Hp}{a:Int}(e:¬atE h a=0):atH h a=Hd.zero:=by unfold atH;exact if_neg e
def zck(h:Hp)(i:Int)(big:Bool)(u o:Nat):Option (List Int) :=
 if _hlt:o<u then
  if atE h (za7 h.pw h.np i o)=0 then
   if big then some [za7 h.pw h.np i o]
   else (zck h i big u (o+((atH h (za7 h.pw h.np i o)).n.toNat+1))).map (za7 h.pw h.np i o :: ·)
  else none
 else some []
 termination_by u-o
theorem zbS{h:Hp}{i:Int}{big:Bool}{u o:Nat}(hlt:¬o<u):zck h i big u o=some []:=by
 rw [zck,dif_neg hlt]
theorem zdb{h:Hp}{i:Int}{big:Bool}{u o:Nat}(hlt:o<u)(e:¬atE h (za7 h.pw h.np i o)=0):zck h i big u o=none:=by
 rw [zck,dif_pos hlt,if_neg e]
theorem zdU{h:Hp}{i:Int}{u o:Nat}(hlt:o<u)(e:atE h (za7 h.pw h.np i o)=0):zck h i true u o=some [za7 h.pw h.np i o]:=by
 rw [zck,dif_pos hlt,if_pos e,if_pos rfl]
theorem zdg{h:Hp}{i:Int}{u o:Nat}(hlt:o<u)(e:atE h (za7 h.pw h.np i o)=0):zck h i false u o=(zck h i false u (o+((atH h (za7 h.pw h.np i o)).n.toNat+1))).map (za7 h.pw h.np i o :: ·):=by
 rw [zck,dif_pos hlt,if_pos e,if_neg (by decide)]
def zcS(h:Hp)(i:Int)(big:Bool)(u o:Nat)(acc:List Int):Prop:=zck h i big u 0=(zck h i big u o).map (acc ++ ·)
theorem zcS.start(h:Hp)(i:Int)(big:Bool)(u:Nat):zcS h i big u 0 []:=by
 unfold zcS;cases zck h i big u 0 <;> simp
theorem zcS.fin{h:Hp}{i:Int}{big:Bool}{u o:Nat}{acc:List Int}(hw:zcS h i big u o acc)(hlt:¬o<u):zck h i big u 0=some acc:=by
 unfold zcS at hw;rw [hw,zbS hlt];simp
theorem zcS.bad{h:Hp}{i:Int}{big:Bool}{u o:Nat}{acc:List Int}(hw:zcS h i big u o acc)(hlt:o<u)(e:¬atE h (za7 h.pw h.np i o)=0):zck h i big u 0=none:=by
 unfold zcS at hw;rw [hw,zdb hlt e];rfl
theorem zcS.big{h:Hp}{i:Int}{u o:Nat}{acc:List Int}(hw:zcS h i true u o acc)(hlt:o<u)(e:atE h (za7 h.pw h.np i o)=0):zck h i true u 0=some (acc++[za7 h.pw h.np i o]):=by
 unfold zcS at hw;rw [hw,zdU hlt e];rfl
theorem zcS.step{h:Hp}{i:Int}{u o:Nat}{acc:List Int}(hw:zcS h i false u o acc)(hlt:o<u)(e:atE h (za7 h.pw h.np i o)=0):zcS h i false u (o+((atH h (za7 h.pw h.np i o)).n.toNat+1)) (acc++[za7 h.pw h.np i o]):=by
 unfold zcS at hw ⊢;rw [hw,zdg hlt e]
 cases zck h i false u (o+((atH h (za7 h.pw h.np i o)).n.toNat+1)) <;> simp
def pgAt(h:Hp)(i:Int):Pg:=h.pages.getD i.toNat Pg.zero
def zcI(h:Hp)(i:Int):Option (List Int):=zck h i (decide ((pgAt h i).kind=2)) (pgAt h i).used.toNat 0
def zbj(h:Hp)(i:Int):Int:=if okH h then (if i<0\/h.pages.length<=i then 2 else if (pgAt h i).kind=0\/(pgAt h i).kind=3 then 0 else if (zcI h i).isSome then 0 else 19) else 1
def zaB(h:Hp)(i:Int):List Int:=if okH h then (if i<0\/h.pages.length<=i then [] else if (pgAt h i).kind=0\/(pgAt h i).kind=3 then [] else (zcI h i).getD []) else []
theorem znk{h:Hp}{i:Int}(h1:okH h=false):zbj h i=1/\zaB h i=[]:=by
 unfold zbj zaB;rw [if_neg (by simp [h1]),if_neg (by simp [h1])];exact ⟨rfl,rfl⟩
theorem znj{h:Hp}{i:Int}(h1:okH h=true)(h2:i<0\/h.pages.length<=i):zbj h i=2/\zaB h i=[]:=by
 unfold zbj zaB;rw [if_pos h1,if_pos h1,if_pos h2,if_pos h2];exact ⟨rfl,rfl⟩
theorem zfn{h:Hp}{i:Int}(h1:okH h=true)(h2:¬(i<0\/h.pages.length<=i))(h3:(pgAt h i).kind=0\/(pgAt h i).kind=3):zbj h i=0/\zaB h i=[]:=by
 unfold zbj zaB;rw [if_pos h1,if_pos h1,if_neg h2,if_neg h2,if_pos h3,if_pos h3];exact ⟨rfl,rfl⟩
theorem zem{h:Hp}{i:Int}(h1:okH h=true)(h2:¬(i<0\/h.pages.length<=i))(h3:¬((pgAt h i).kind=0\/(pgAt h i).kind=3)):zbj h i=(if (zcI h i).isSome then 0 else 19)/\zaB h i=(zcI h i).getD []:=by
 unfold zbj zaB;rw [if_pos h1,if_pos h1,if_neg h2,if_neg h2,if_neg h3,if_neg h3];exact ⟨rfl,rfl⟩
theorem zg0{h:Hp}{i:Int}{l:List Int}(h1:okH h=true)(h2:¬(i<0\/h.pages.length<=i))(h3:¬((pgAt h i).kind=0\/(pgAt h i).kind=3))(h4:zcI h i=some l):zbj h i=0/\zaB h i=l:=by
 obtain ⟨e1,e2⟩:=zem h1 h2 h3;rw [e1,e2,h4];exact ⟨rfl,rfl⟩
theorem zoI{h:Hp}{i:Int}(h1:okH h=true)(h2:¬(i<0\/h.pages.length<=i))(h3:¬((pgAt h i).kind=0\/(pgAt h i).kind=3))(h4:zcI h i=none):zbj h i=19/\zaB h i=[]:=by
 obtain ⟨e1,e2⟩:=zem h1 h2 h3;rw [e1,e2,h4];exact ⟨rfl,rfl⟩
def zuB(h:Hp)(i o:Int):Int:=zao h.words (za7 h.pw h.np i o)
theorem zrV(h:Hp)(i:Int)(u:Nat):∀ (f o:Nat) (l:List Int),u-o<=f->zck h i false u o=some l->l.length<=u-o
 | 0,o,l,hf,hl=>by
  rw [zbS (by omega)]at hl;cases hl;simp
 | f+1,o,l,hf,hl=>by
  by_cases hlt:o<u
  · by_cases e:atE h (za7 h.pw h.np i o)=0
    · rw [zdg hlt e]at hl;cases hr:zck h i false u (o+((atH h (za7 h.pw h.np i o)).n.toNat+1)) with
      | none=>rw [hr]at hl;cases hl
      | some r=>
       rw [hr]at hl;cases hl
       have:=zrV h i u f _ r (by omega) hr
       rw [qaO];omega
    · rw [zdb hlt e]at hl;cases hl
  · rw [zbS hlt]at hl;cases hl;simp
theorem zfo{h:Hp}{i:Int}(h1:okH h=true):(zaB h i).length<=64:=by
 by_cases h2:i<0\/h.pages.length<=i
 · rw [(znj h1 h2).2];simp
 · by_cases h3:(pgAt h i).kind=0\/(pgAt h i).kind=3
   · rw [(zfn h1 h2 h3).2];simp
   · rw [(zem h1 h2 h3).2];cases hw:zcI h i with
     | none=>simp
     | some l=>
      rw [Option.getD_some];unfold zcI at hw;by_cases h4:(pgAt h i).kind=2
      · rw [qab h4]at hw;by_cases hlt:0<(pgAt h i).used.toNat
        · by_cases e:atE h (za7 h.pw h.np i ((0:Nat):Int))=0
          · rw [zdU hlt e]at hw;cases hw;simp
          · rw [zdb hlt e]at hw;cases hw
        · rw [zbS hlt]at hw;cases hw;simp
      · rw [qaj h4]at hw;have hlen:=zrV h i _ _ _ _ (qan _) hw;obtain ⟨g1,-,-,-,-,-,hL⟩:=zan h1;have hpw:=(zaj g1).2.1;have hil:i.toNat<h.pages.length:=by omega
        have hmem:pgAt h i∈h.pages:=by
         unfold pgAt;rw [zar (qal hil)];exact qbU hil
        obtain ⟨-,-,-,-,-,k1,-,-,hk⟩:=zaI _ _ _ _ hL _ hmem;have:=k1 (by omega)
        omega
theorem zuC{h:Hp}{i:Int}(h1:okH h=true)(h2:¬(i<0\/h.pages.length<=i))(h3:¬zbj h i=0):zbj h i=19:=by
 unfold zbj at h3 ⊢
 rw [if_pos h1,if_neg h2]at h3 ⊢
 split at h3
 · exact absurd rfl h3
 · rename_i h4;rw [if_neg h4];split at h3
   · exact absurd rfl h3
   · rename_i h5;rw [if_neg h5]
def zbC(h:Hp)(k:Nat):List Int:=(List.range k).flatMap (fun (j:Nat)=>zaB h j)
def zh6(h:Hp):Bool:=(List.range h.pages.length).all (fun (j:Nat)=>decide (zbj h j=0))
def zb9(h:Hp):Int:=if okH h then (if zh6 h then 0 else 19) else 1
def zat(h:Hp):List Int:=if okH h then (if zh6 h then zbC h h.pages.length else []) else []
theorem zmm{h:Hp}(h1:okH h=false):zb9 h=1/\zat h=[]:=by
 unfold zb9 zat;rw [if_neg (by simp [h1]),if_neg (by simp [h1])];exact ⟨rfl,rfl⟩
theorem zox{h:Hp}{k:Nat}(h1:okH h=true)(hk:k<h.pages.length)(h2:¬zbj h k=0):zb9 h=19/\zat h=[]:=by
 have hB:zh6 h=false:=by
  rw [<-qby];intro c
  unfold zh6 at c;exact h2 (qar (qaQ.1 c k (qbw.2 hk)))
 unfold zb9 zat;rw [if_pos h1,if_pos h1,if_neg (by simp [hB]),if_neg (by simp [hB])];exact ⟨rfl,rfl⟩
theorem zdh{h:Hp}(h1:okH h=true)(h2:∀ k:Nat,k<h.pages.length->zbj h k=0):zb9 h=0/\zat h=zbC h h.pages.length:=by
 have hB:zh6 h=true:=by
  unfold zh6;exact qaQ.2 fun j hj=>qab (h2 j (qbw.1 hj))
 unfold zb9 zat;rw [if_pos h1,if_pos h1,if_pos hB,if_pos hB];exact ⟨rfl,rfl⟩
theorem zeB(h:Hp)(k:Nat):zbC h (k+1)=zbC h k++zaB h k:=by
 unfold zbC;rw [List.range_succ,List.flatMap_append];simp
theorem zff{h:Hp}(h1:okH h=true):∀ k,(zbC h k).length<=64*k
 | 0=>by simp [zbC]
 | k+1=>by
  rw [zeB,qaz];have:=zff h1 k
  have:=zfo (i:=k) h1
  omega
theorem zt4(h:Hp)(i:Int)(big:Bool)(u:Nat):∀ (f o:Nat) (l:List Int),u-o<=f->zck h i big u o=some l->WB l
 | 0,o,l,hf,hl=>by
  rw [zbS (by omega)]at hl;cases hl;exact WB.nil
 | f+1,o,l,hf,hl=>by
  by_cases hlt:o<u
  · by_cases e:atE h (za7 h.pw h.np i o)=0
    · cases big
      · rw [zdg hlt e]at hl;cases hr:zck h i false u (o+((atH h (za7 h.pw h.np i o)).n.toNat+1)) with
        | none=>rw [hr]at hl;cases hl
        | some r=>
         rw [hr]at hl;cases hl
         intro x hx;rcases qas.1 hx with rfl | hx
         · exact zln _ _ _ _
         · exact zt4 h i false u f _ r (by omega) hr x hx
      · rw [zdU hlt e]at hl;cases hl
        intro x hx;rw [qau.1 hx];exact zln _ _ _ _
    · rw [zdb hlt e]at hl;cases hl
  · rw [zbS hlt]at hl;cases hl;exact WB.nil
theorem zr5(h:Hp)(i:Int):WB (zaB h i):=by
 unfold zaB;split
 · split
   · exact WB.nil
   · split
     · exact WB.nil
     · cases hw:zcI h i with
       | none=>exact WB.nil
       | some l=>exact zt4 h i _ _ _ _ l (qan _) hw
 · exact WB.nil
theorem zmn(h:Hp):WB (zat h):=by
 unfold zat;split
 · split
   · intro x hx;obtain ⟨j,-,hj⟩:=List.mem_flatMap.1 hx;exact zr5 h j x hj
   · exact WB.nil
 · exact WB.nil
theorem zcW(h:Hp):(zat h).length<=4096:=by
 unfold zat;split
 · rename_i h1;split
   · have:=zff h1 h.pages.length
     obtain ⟨g1,_,g3,_⟩:=zan h1;have:=(zaj g1).2.2.2.2
     omega
   · simp
 · simp
def zb7(h:Hp)(l:List Int):List Int:=l.filter (fun a=>decide (¬(atH h a).k=0))
def zaf(h:Hp):List Int:=zb7 h (zat h)
theorem objs_in{h:Hp}{l:List Int}{k:Nat}{x:Int}(hx:l[k]?=some x)(hk:¬(atH h x).k=0):zb7 h (l.take (k+1))=zb7 h (l.take k)++[x]:=by
 unfold zb7;rw [zbt hx,qct];simp [hk]
theorem zwh{h:Hp}{l:List Int}{k:Nat}{x:Int}(hx:l[k]?=some x)(hk:(atH h x).k=0):zb7 h (l.take (k+1))=zb7 h (l.take k):=by
 unfold zb7;rw [zbt hx,qct];simp [hk]
theorem zwi(h:Hp)(l:List Int)(k:Nat):(zb7 h (l.take k)).length<=l.length:=by
 unfold zb7;exact qaF (qbM _ _) (by rw [qax];omega)
def zq6(P:Int->Bool):List Int->Int
 | []=>0
 | x::r=>if P x then x else zq6 P r
theorem zwy{P:Int->Bool}{l:List Int}{k:Nat}{x:Int}(h:l[k]?=some x):zq6 P (l.drop k)=if P x then x else zq6 P (l.drop (k+1)):=by
 obtain ⟨hk,rfl⟩:=qah.1 h;rw [qaW hk,zq6]
theorem zvf{P:Int->Bool}{l:List Int}{k:Nat}(h:l.length<=k):zq6 P (l.drop k)=0:=by
 rw [qbp h];rfl
theorem atH_m(h:Hp)(a:Int):0<=(atH h a).m/\(atH h a).m<4294967296:=by
 by_cases e:atE h a=0
 · have:=zdT e;exact ⟨this.2.2.1,this.2.2.2.1⟩
 · rw [zxa e];decide
def clsB(h:Hp)(i:Nat)(x:Int):Bool :=
 (decide ((pgAt h i).kind=1) && !decide (zaT (atH h x).k (atH h x).n (atH h x).m<=zdX h.pw h.np)) || (decide ((pgAt h i).kind=2)&&decide ((atH h x).k=0))
def clsV(h:Hp)(i:Nat)(l:List Int):Int:=zq6 (clsB h i) l
def za0(ps:List Pg):Nat->Nat
 | 0=>0
 | j+1=>if (ps.getD (j+1) Pg.zero).kind=3 then za0 ps j else j+1
theorem zpr(ps:List Pg):∀ i,za0 ps i<=i
 | 0=>qan _
 | j+1=>by unfold za0;split;exact Nat.le_succ_of_le (zpr ps j);exact qan _
theorem zu7{h:Hp}(h1:okH h=true):¬(h.pages.getD 0 Pg.zero).kind=3:=by
 obtain ⟨-,-,-,-,-,-,hL⟩:=zan h1;cases hp:h.pages with
 | nil=>simp [Pg.zero]
 | cons x r=>
  rw [hp,zaL]at hL;intro hk;have hk':x.kind=3:=hk
  unfold zcc at hL;rw [if_pos (Or.inl (by rw [hk'];simp))]at hL
  cases hL
def zcb(h:Hp)(x:Int):Int:=if (atH h x).k=0 then 1 else zaT (atH h x).k (atH h x).n (atH h x).m
def zvM(h:Hp)(i:Nat)(l:List Int)(t:Nat):Bool:=l.any fun x=>decide (x-4096-(i:Int)*h.pw<=t/\(t:Int)<x-4096-(i:Int)*h.pw+zcb h x)
def zh2(h:Hp)(i:Nat)(l:List Int):List Bool:=(List.range h.pw.toNat).map (zvM h i l)
def zh3(h:Hp)(i:Nat)(l:List Int)(x:Int)(z:Nat):List Bool:=(List.range h.pw.toNat).map fun t=>zvM h i l t || decide (x-4096-(i:Int)*h.pw<=t/\(t:Int)<x-4096-(i:Int)*h.pw+z)
theorem zou(h:Hp)(i:Nat)(l:List Int)(x:Int)(z:Nat):(zh3 h i l x z).length=h.pw.toNat:=by unfold zh3;rw [qak,qcr]
theorem zsI(h:Hp)(i:Nat)(l:List Int)(x:Int):zh3 h i l x 0=zh2 h i l:=by
 unfold zh3 zh2;congr 1;funext t
 rw [show decide (x-4096-(i:Int)*h.pw<=t/\(t:Int)<x-4096-(i:Int)*h.pw+((0:Nat):Int))=false from qaj (by omega),Bool.or_false]
theorem zvL{h:Hp}{i:Nat}{l:List Int}{x:Int}{z T:Nat}(hT:x-4096-(i:Int)*h.pw+z=T)(hp:T<h.pw.toNat):(zh3 h i l x z).set T true=zh3 h i l x (z+1):=by
 apply qbn
 intro j;rw [qaP,zou];unfold zh3;rw [qbr,qbr];by_cases hj:j<h.pw.toNat
 · rw [List.getElem?_range hj];by_cases hjT:T=j
   · subst hjT;rw [if_pos rfl,if_pos hp];simp only [qbH];rw [qab (by omega),Bool.or_true]
   · rw [if_neg hjT];simp only [qbH];congr 2
     exact decide_eq_decide.2 (by omega)
 · rw [qbN (by rw [qcr];omega),if_neg (by omega)]
   rfl
theorem zua{h:Hp}{i:Nat}{l:List Int}{x:Int}{z:Nat}(hT:x-4096-(i:Int)*h.pw+z<0\/h.pw<=x-4096-(i:Int)*h.pw+z):zh3 h i l x (z+1)=zh3 h i l x z:=by
 unfold zh3;apply List.map_congr_left
 intro t ht;have:=qbw.1 ht
 congr 1
 exact decide_eq_decide.2 (by omega)
theorem zub{h:Hp}{i:Nat}{l:List Int}{x:Int}{z:Nat}(hz:zcb h x=z):zh3 h i l x z=zh2 h i (l++[x]):=by
 unfold zh3 zh2;congr 1;funext t
 unfold zvM;rw [List.any_append,List.any_cons,List.any_nil,Bool.or_false,hz]
theorem zvK(h:Hp)(x:Int):1<=zcb h x/\zcb h x<=256:=by
 unfold zcb;split
 · omega
 · by_cases e:atE h x=0
   · have:=zdT e
     rw [zbs this.2.1];omega
   · rw [zxa e];decide
theorem zt8(h:Hp)(i:Nat):zh2 h i []=List.replicate h.pw.toNat false:=by
 unfold zh2 zvM;rw [List.eq_replicate_iff];refine ⟨by rw [qak,qcr],fun b hb=>?_⟩
 obtain ⟨t,-,rfl⟩:=qay.1 hb
 rfl
theorem zqi(h:Hp)(i:Int)(big:Bool)(u:Nat):∀ (f o:Nat) (l:List Int),u-o<=f->zck h i big u o=some l->∀ x∈l,atE h x=0/\∃ o':Nat,o<=o'/\o'<u/\x=za7 h.pw h.np i o'
 | 0,o,l,hf,hl,x,hx=>by
  rw [zbS (by omega)]at hl;cases hl;cases hx
 | f+1,o,l,hf,hl,x,hx=>by
  by_cases hlt:o<u
  · by_cases e:atE h (za7 h.pw h.np i o)=0
    · cases big
      · rw [zdg hlt e]at hl;cases hr:zck h i false u (o+((atH h (za7 h.pw h.np i o)).n.toNat+1)) with
        | none=>rw [hr]at hl;cases hl
        | some r=>
         rw [hr]at hl;cases hl
         rcases qas.1 hx with rfl | hx
         · exact ⟨e,o,qan _,hlt,rfl⟩
         · obtain ⟨a,o',b1,b2,b3⟩:=zqi h i false u f _ r (by omega) hr x hx
           exact ⟨a,o',by omega,b2,b3⟩
      · rw [zdU hlt e]at hl;cases hl
        rw [qau.1 hx];exact ⟨e,o,qan _,hlt,rfl⟩
    · rw [zdb hlt e]at hl;cases hl
  · rw [zbS hlt]at hl;cases hl;cases hx
theorem zbD{h:Hp}{i:Int}{x:Int}(hx:x∈zaB h i):atE h x=0:=by
 unfold zaB at hx;split at hx
 · split at hx
   · cases hx
   · split at hx
     · cases hx
     · cases hw:zcI h i with
       | none=>rw [hw]at hx;cases hx
       | some l=>
        rw [hw]at hx;exact (zqi h i _ _ _ _ l (qan _) hw x hx).1
 · cases hx
theorem zn2{h:Hp}{x:Int}(e:atE h x=0):4096<=x/\x<8192:=by
 have h1:=(zdT e).1;have h5:ofE h.pw h.np x=0:=by
  by_cases h5:ofE h.pw h.np x=0
  · exact h5
  · rw [(ziJ h1 h5).1]at e;cases e
 obtain ⟨-,-,t,ht,htl⟩:=zuJ h1 h5;obtain ⟨k1,k2,-⟩:=zan h1;have:=(conf_prod k1).2
 omega
theorem zaG{h:Hp}{x:Int}(hx:x∈zat h):atE h x=0:=by
 unfold zat at hx;split at hx
 · split at hx
   · unfold zbC at hx;obtain ⟨j,-,hj⟩:=List.mem_flatMap.1 hx;exact zbD hj
   · cases hx
 · cases hx
theorem zco{h:Hp}{x:Int}(hx:x∈zaf h):atE h x=0/\¬(atH h x).k=0:=by
 unfold zaf zb7 at hx;obtain ⟨h1,h2⟩:=qbC.1 hx;exact ⟨zaG h1,qar h2⟩
def zfH(h:Hp)(i:Nat):Nat->List Bool->Int
 | _,[]=>0
 | k,b::r=>if b=false/\¬zuB h i k=0 then 4096+(i:Int)*h.pw+k else zfH h i (k+1) r
def zvn(h:Hp)(i:Nat):Int:=zfH h i 0 (zh2 h i (zaB h (za0 h.pages i)))
theorem dirt_at{h:Hp}{i:Nat}{l:List Bool}{k:Nat}{b:Bool}(hb:l[k]?=some b):zfH h i k (l.drop k)=if b=false/\¬zuB h i k=0 then 4096+(i:Int)*h.pw+k else zfH h i (k+1) (l.drop (k+1)):=by
 obtain ⟨hk,rfl⟩:=qah.1 hb;rw [qaW hk,zfH]
theorem zwB{h:Hp}{i:Nat}{l:List Bool}{k:Nat}(hk:l.length<=k):zfH h i k (l.drop k)=0:=by
 rw [qbp hk];rfl
theorem zt9(h:Hp)(i:Nat)(l:List Int):(zh2 h i l).length=h.pw.toNat:=by unfold zh2;rw [qak,qcr]
structure Fd where
 fault:Int
 page:Int
 addr:Int
 deriving DecidableEq
def Fd.none:Fd:=⟨0,0,0⟩
def zv5(h:Hp)(i:Nat):Fd :=
 if ¬(pgAt h i).kind=0/\¬(pgAt h i).space=h.space then ⟨2,i,0⟩
 else if ¬zbj h i=0 then ⟨3,i,0⟩
 else if ¬clsV h i (zaB h i)=0 then ⟨5,i,clsV h i (zaB h i)⟩
 else if ¬zvn h i=0 then ⟨4,i,zvn h i⟩ else Fd.none
theorem getH_m(h:Hp)(a:Int):0<=(getH h a).m/\(getH h a).m<4294967296:=by
 by_cases e:getE h a=0
 · rw [(znL e).2.2.1];exact atH_m h a
 · rw [zho e];decide
theorem zq8(h:Hp)(a:Int):(ziD h a).length<=h.words.length:=by
 unfold ziD;split
 · exact zuq _ _ _
 · simp
def zca(all:List Int)(x:Hd):Nat->List Int->Option Nat
 | _,[]=>none
 | k,f::r=>if ptrB x.k x.n x.m k=true/\¬f=0/\¬f∈all then some k else zca all x (k+1) r
theorem bad_at{all:List Int}{x:Hd}{l:List Int}{k:Nat}{f:Int}(hf:l[k]?=some f):zca all x k (l.drop k)=if ptrB x.k x.n x.m k=true/\¬f=0/\¬f∈all then some k else zca all x (k+1) (l.drop (k+1)):=by
 obtain ⟨hk,rfl⟩:=qah.1 hf;rw [qaW hk,zca]
theorem bad_end{all:List Int}{x:Hd}{l:List Int}{k:Nat}(hk:l.length<=k):zca all x k (l.drop k)=none:=by
 rw [qbp hk];rfl
def zuu(h:Hp)(a:Int):Fd:=⟨6,ofI h.pw h.np a,a⟩
def zfh(h:Hp)(all:List Int):List Int->Fd
 | []=>Fd.none
 | x::r=>match zca all (getH h x) 0 (ziD h x) with | some k=>zuu h (x+1+k) | none=>zfh h all r
def zfj(h:Hp):Fd:=zfh h (zaf h) (zaf h)
theorem ptrs_at{h:Hp}{all l:List Int}{k:Nat}{x:Int}(hx:l[k]?=some x):zfh h all (l.drop k)=match zca all (getH h x) 0 (ziD h x) with | some k=>zuu h (x+1+k) | none=>zfh h all (l.drop (k+1)):=by
 obtain ⟨hk,rfl⟩:=qah.1 hx;rw [qaW hk,zfh]
theorem zv0{h:Hp}{all l:List Int}{k:Nat}(hk:l.length<=k):zfh h all (l.drop k)=Fd.none:=by
 rw [qbp hk];rfl
def zcf(h:Hp):Nat->Nat->Fd
 | _,0=>Fd.none
 | i,n+1=>if ¬(zv5 h i).fault=0 then zv5 h i else zcf h (i+1) n
def zaQ:List Pg->Nat
 | []=>0
 | x::r=>(if x.kind=1/\0<x.pins then 1 else 0)+zaQ r
theorem zhz:∀ a b:List Pg,zaQ (a++b)=zaQ a+zaQ b
 | [],b=>by simp [zaQ]
 | x::r,b=>by rw [qaJ,zaQ,zaQ,zhz r b];omega
theorem zlg{ps:List Pg}{k:Nat}{x:Pg}(h:ps[k]?=some x):zaQ (ps.take (k+1))=zaQ (ps.take k)+if x.kind=1/\0<x.pins then 1 else 0:=by
 rw [zbt h,zhz];simp [zaQ]
theorem zpF:∀ ps:List Pg,zaQ ps<=ps.length
 | []=>qan _
 | x::r=>by have:=zpF r;unfold zaQ;rw [qaO];split <;> omega
def zlj(h:Hp):Fd :=
 if okH h then
  (if ¬(zcf h 0 h.pages.length).fault=0 then zcf h 0 h.pages.length
   else if ¬(zfj h).fault=0 then zfj h
   else if h.np / 4<zaQ h.pages then ⟨7,0,0⟩ else Fd.none)
 else ⟨1,0,0⟩
def zu9(h:Hp):Bool:=decide ((zlj h).fault=0)
theorem zts{h:Hp}(e:(zlj h).fault=0):zlj h=Fd.none:=by
 unfold zlj at e ⊢
 split at e
 · rename_i h1;rw [if_pos h1];split at e
   · contradiction
   · rename_i h2;rw [if_neg h2];split at e
     · contradiction
     · rename_i h3;rw [if_neg h3];split at e
       · cases e
       · rename_i h4;rw [if_neg h4]
 · cases e
def zib(h:Hp)(l:List Int):Bool:=zu9 h&&l.all fun x=>decide (x=0\/x∈zaf h)
theorem all_at{P:Int->Bool}{l:List Int}{k:Nat}{x:Int}(hx:l[k]?=some x):(l.drop k).all P=(P x&&(l.drop (k+1)).all P):=by
 obtain ⟨hk,rfl⟩:=qah.1 hx;rw [qaW hk,List.all_cons]
def ziK(pw np k n m:Int):Bool:=zaD k n m&&decide (¬k=0)&&decide (¬zax pw np (zaT k n m) = -1)
theorem zoz(ps:List Pg):∀ (k:Nat) (r:Int×Int),r∈zcs ps k->∀ t:Nat,r.1<=t->(t:Int)<r.1+r.2->∃ x,ps[t]?=some x/\x.kind=0
 | 0,r,h=>by simp [zcs]at h
 | k+1,r,h=>by
  have ih:=zoz ps k;cases hx:ps[k]? with
  | none=>rw [zcs,hx]at h;exact ih r h
  | some x=>
   rw [zeD hx]at h;by_cases h0:x.kind=0
   · rcases zia (zcs ps k) with e | ⟨pre,q,e⟩
     · rw [e,zeE h0]at h;simp at h;subst h
       intro t h1 h2;obtain rfl:t=k:=by simp only at h1 h2;omega
       exact ⟨x,hx,h0⟩
     · by_cases he:q.1+q.2=k
       · rw [e,zdY h0 he]at h;rcases qao.1 h with h | h
         · exact ih r (by rw [e];exact qa6 _ h)
         · simp at h;subst h
           intro t h1 h2;by_cases ht:t=k
           · subst ht;exact ⟨x,hx,h0⟩
           · exact ih q (by rw [e];simp) t h1 (by simp only at h2;omega)
       · rw [e,zeF h0 he]at h;rcases qao.1 h with h | h
         · exact ih r (by rw [e];exact h)
         · simp at h;subst h
           intro t h1 h2;obtain rfl:t=k:=by simp only at h1 h2;omega
           exact ⟨x,hx,h0⟩
   · rw [zfW h0]at h;exact ih r h
theorem zhs{k:Int}:∀ l:List (Int×Int),zbv k l = -1\/∃ r∈l,zbv k l=r.1/\1<=k/\k<=r.2
 | []=>Or.inl rfl
 | r::t=>by
  unfold zbv;split
  · rename_i h;exact Or.inr ⟨r,by simp,rfl,h⟩
  · rcases zhs t with h | ⟨q,hq,h⟩
    · exact Or.inl h
    · exact Or.inr ⟨q,by simp [hq],h⟩
theorem zc4{ps:List Pg}{k:Int}(h:0<=zaC ps k):1<=k/\zaC ps k+k<=ps.length/\∀ t:Nat,zaC ps k<=t->(t:Int)<zaC ps k+k->∃ x,ps[t]?=some x/\x.kind=0:=by
 rw [zk4]at h ⊢
 rcases zhs (k:=k) (zqp ps) with e | ⟨r,hr,e,h1,h2⟩
 · omega
 · rw [e];have hb:=zqo ps ps.length r hr;exact ⟨h1,by omega,fun t a b=>zoz ps ps.length r hr t a (by omega)⟩
def zjm(h:Hp):Pg:=h.pages.getD h.bump.toNat Pg.zero
def newB(h:Hp)(n:Int):Bool:=decide (h.bump<0\/¬(zjm h).space=h.space\/h.pw<(zjm h).used+n\/zgh h.pw h.np<zbR h.pages)
def zdD(h:Hp):Bool:=decide (zaC h.pages 1<0\/zgh h.pw h.np<=zbR h.pages)
def zb1(h:Hp)(n:Int):Bool:=!(newB h n&&zdD h)
def ze4(h:Hp)(n:Int):Int:=if newB h n then zaC h.pages 1 else h.bump
def zbH(h:Hp)(n:Int):List Pg:=if newB h n then zcH h.pages (zaC h.pages 1) h.space else h.pages
def zf4(ps:List Pg)(j:Nat)(n:Int):List Pg:=ps.set j ⟨(ps.getD j Pg.zero).kind,(ps.getD j Pg.zero).space,(ps.getD j Pg.zero).used+n,(ps.getD j Pg.zero).pins⟩
def zjb(h:Hp)(n:Int):Hp:={ h with pages:=zf4 (zbH h n) (ze4 h n).toNat n,bump:=ze4 h n }
def zgW(h:Hp)(n:Int):Int:=4096+ze4 h n*h.pw+((zbH h n).getD (ze4 h n).toNat Pg.zero).used
def zeN(h:Hp)(k:Int):Bool:=decide (¬(zaC h.pages k<0\/zgh h.pw h.np<zbR h.pages+k))
def zkU(h:Hp)(n k:Int):Hp:={ h with pages:=zed h.pw h.np h.pages (zaC h.pages k) h.space n }
def zjg(h:Hp)(k:Int):Int:=4096+zaC h.pages k*h.pw
theorem zu1{pw np:Int}{ps:List Pg}{i sp n:Int}(h:1<=zax pw np n/\0<=sp/\sp<=1):zed pw np ps i sp n=zgp ps i (zax pw np n) ⟨2,sp,n,0⟩ ⟨3,sp,0,0⟩/\zgD pw np ps i sp n=zjw ps i (zax pw np n):=by
 unfold zed zgD;rw [if_pos h,if_pos h];exact ⟨rfl,rfl⟩
theorem small_spec{h:Hp}{n:Int}(h1:okH h=true)(hok:zb1 h n=true):
 ∃ j:Nat,∃ x:Pg,ze4 h n=j/\j<h.pages.length/\(zbH h n).length=h.pages.length/\(zbH h n)[j]?=some x/\x.kind=1/\0<=x.used/\x.used<=h.pw/\x.space=h.space /\
  ((newB h n=true/\zbH h n=h.pages.set j ⟨1,h.space,0,0⟩/\x=⟨1,h.space,0,0⟩/\zh8 h.pages (zaC h.pages 1) h.space=0/\∃ y,h.pages[j]?=some y/\y.kind=0)\/(newB h n=false/\zbH h n=h.pages/\x.used+n<=h.pw)):=by
 obtain ⟨g1,g2,g3,g4,g5,g6,g7⟩:=zan h1;obtain ⟨k1,k2,-,k4,k5⟩:=zaj g1;unfold zb1 at hok;cases hn:newB h n
 · have hd:=qa9 hn;have hb0:0<=h.bump:=by omega
   have hbb:=qar g6;have hbs:h.bump<h.pages.length/\(h.pages.getD h.bump.toNat Pg.zero).kind=1:=by
    rcases hbb with h | h
    · omega
    · exact ⟨h.2.1,h.2.2⟩
   have hx:h.pages[h.bump.toNat]?=some (h.pages[h.bump.toNat]'(by omega)):=qal _
   have hgd:=zar hx;have hmem:=zaI _ _ _ _ g7 _ (qav hx);rw [hgd]at hbs;have hbp:zjm h=h.pages[h.bump.toNat]'(by omega):=hgd
   rw [hbp]at hd;refine ⟨h.bump.toNat,h.pages[h.bump.toNat]'(by omega),by unfold ze4;rw [hn];simp;omega,by omega,by unfold zbH;rw [hn];rfl,by unfold zbH;rw [hn];exact hx,hbs.2,(hmem.2.2.2.2.2.1 hbs.2).1,(hmem.2.2.2.2.2.1 hbs.2).2,?_,Or.inr ⟨rfl,by unfold zbH;rw [hn];rfl,by omega⟩⟩
   have:¬¬(h.pages[h.bump.toNat]'(by omega)).space=h.space:=fun c=>hd (Or.inr (Or.inl c))
   exact Classical.not_not.1 this
 · rw [hn,qaS]at hok;have hf:zdD h=false:=by simpa using hok
   have hd:=qa9 hf;have hF:0<=zaC h.pages 1:=by omega
   obtain ⟨-,f1,f2⟩:=zc4 hF;obtain ⟨y,hy,hy0⟩:=f2 (zaC h.pages 1).toNat (by omega) (by omega)
   have hlt:(zaC h.pages 1).toNat<h.pages.length:=(qah.1 hy).1;have hfree:zcq h.pages (zaC h.pages 1).toNat 1=true:=by
    have:=zb2 (ps:=h.pages) (i:=(zaC h.pages 1).toNat) (k:=0) (x:=y) (by rw [qbd];exact hy)
    rw [zcy,hy0]at this;simpa using this
   obtain ⟨t1,t2⟩:=zh5 (x:=⟨1,h.space,0,0⟩) (y:=Pg.zero) hlt (show (zaC h.pages 1).toNat+1<=h.pages.length by omega) hfree
   have eF:(((zaC h.pages 1).toNat:Nat):Int)=zaC h.pages 1:=by omega
   rw [eF]at t1 t2;have hps:zbH h n=h.pages.set (zaC h.pages 1).toNat ⟨1,h.space,0,0⟩:=by
    unfold zbH zcH;rw [hn,if_pos rfl,if_pos ⟨g4,g5⟩];rw [show ((1:Nat):Int)=1 from rfl]at t1
    rw [t1];apply qbn
    intro i;have hl:(put h.pages (zaC h.pages 1).toNat 1 Pg.zero).length=h.pages.length:=zd8 (by omega)
    rw [qaP,qaP,hl];split
    · rfl
    · rw [zdn (by omega) (by omega)]
   have hpe:zh8 h.pages (zaC h.pages 1) h.space=0:=by
    unfold zh8;rw [if_pos ⟨g4,g5⟩];exact t2
   refine ⟨(zaC h.pages 1).toNat,⟨1,h.space,0,0⟩,by unfold ze4;rw [hn];exact eF.symm,hlt,by rw [hps,List.length_set],by rw [hps,qaP];simp [hlt],rfl,by simp,by simp only;omega,rfl,Or.inl ⟨rfl,hps,rfl,hpe,y,hy,hy0⟩⟩
theorem ztf{h:Hp}{n k:Int}(h1:okH h=true)(hk:zax h.pw h.np n=k)(hok:zeN h k=true):
 ∃ j kk:Nat,zaC h.pages k=j/\k=kk/\1<=kk/\j+kk<=h.pages.length/\zcq h.pages j kk=true/\(∀ t:Nat,j<=t->t<j+kk->∃ x,h.pages[t]?=some x/\x.kind=0) /\
  zed h.pw h.np h.pages (zaC h.pages k) h.space n=(put h.pages j kk ⟨3,h.space,0,0⟩).set j ⟨2,h.space,n,0⟩/\zgD h.pw h.np h.pages (zaC h.pages k) h.space n=0:=by
 obtain ⟨g1,g2,g3,g4,g5,g6,g7⟩:=zan h1;have hd:=qar hok;have hF:0<=zaC h.pages k:=by omega
 obtain ⟨f0,f1,f2⟩:=zc4 hF;obtain ⟨j,hj⟩:=qaT hF;obtain ⟨kk,hkk⟩:=qaT (show 0<=k by omega)
 have hfr:∀ t:Nat,j<=t->t<j+kk->∃ x,h.pages[t]?=some x/\x.kind=0:=fun t a b=>f2 t (by omega) (by omega)
 have hfree:∀ z:Nat,z<=kk->zcq h.pages j z=true:=by
  intro z;induction z with
  | zero=>intro _;exact zcy _ _
  | succ z ih=>
   intro hz;obtain ⟨x,hx,hx0⟩:=hfr (j+z) (by omega) (by omega)
   rw [zb2 hx,ih (by omega),hx0];rfl
 obtain ⟨t1,t2⟩:=zh5 (x:=⟨2,h.space,n,0⟩) (y:=⟨3,h.space,0,0⟩) (show j<h.pages.length by omega) (show j+kk<=h.pages.length by omega) (hfree kk (qan _))
 refine ⟨j,kk,hj,hkk,by omega,by omega,hfree kk (qan _),hfr,?_,?_⟩
 · unfold zed;rw [hk,if_pos ⟨by omega,g4,g5⟩,hj,hkk];exact t1
 · unfold zgD;rw [hk,if_pos ⟨by omega,g4,g5⟩,hj,hkk];exact t2
theorem zfw(pw np n:Int):zax pw np n<=4:=by
 unfold zax zeK;repeat' split
 all_goals omega
theorem znE(pw np n:Int): -1<=zax pw np n:=by
 unfold zax zeK;repeat' split
 all_goals omega
def zgg(h:Hp)(k n m:Int):Bool:=okH h&&ziK h.pw h.np k n m
def zsb(h:Hp)(k n m:Int):Bool:=decide (0<zax h.pw h.np (zaT k n m))
def zkP(h:Hp)(k n m:Int):Bool:=if zsb h k n m then zeN h (zax h.pw h.np (zaT k n m)) else zb1 h (zaT k n m)
def zkQ(h:Hp)(k n m:Int):Hp:=if zsb h k n m then zkU h (zaT k n m) (zax h.pw h.np (zaT k n m)) else zjb h (zaT k n m)
def znC(h:Hp)(k n m:Int):Int:=if zsb h k n m then zjg h (zax h.pw h.np (zaT k n m)) else zgW h (zaT k n m)
def zcz(h:Hp)(k n m:Int):Int:=if zgg h k n m then (if zkP h k n m then 0 else 3) else 1
def zdu(h:Hp)(k n m:Int):Hp:=if zcz h k n m=0 then zjG (zkQ h k n m) (znC h k n m) k n m else Hp.zero
def zfI(h:Hp)(k n m:Int):Int:=if zcz h k n m=0 then znC h k n m else 0
structure Wk where
 h:Hp
 old:List Int
 taken:List Int
 queue:List Int
 sc:Int
 r0:Int
 r1:Int
 r2:Int
 r3:Int
 r4:Int
 r5:Int
def Wk.zero:Wk:=⟨Hp.zero,[],[],[],0,0,0,0,0,0,0⟩
def zd9(x:Wk)(i:Int):Bool:=match x.h.pages[i.toNat]? with
 | some g=>decide (0<=i)&&(decide (g.kind=1) && !decide (g.space=x.h.space) && !decide (i∈x.taken))
 | none=>false
def zdK(x:Wk)(a:Int):Wk:={ x with queue:=x.queue++[a],r1:=wrap64 (x.r1+1) }
theorem zm8{ps:List Pg}{sp:Int}(h0:0<=sp)(h1:sp<=1)(hF:0<=zaC ps 1):
 (zaC ps 1).toNat<ps.length/\zcH ps (zaC ps 1) sp=ps.set (zaC ps 1).toNat ⟨1,sp,0,0⟩/\∃ y,ps[(zaC ps 1).toNat]?=some y/\y.kind=0:=by
 obtain ⟨-,f1,f2⟩:=zc4 hF;obtain ⟨y,hy,hy0⟩:=f2 (zaC ps 1).toNat (by omega) (by omega)
 have hlt:(zaC ps 1).toNat<ps.length:=(qah.1 hy).1;have hfree:zcq ps (zaC ps 1).toNat 1=true:=by
  have:=zb2 (ps:=ps) (i:=(zaC ps 1).toNat) (k:=0) (x:=y) (by rw [qbd];exact hy)
  rw [zcy,hy0]at this;simpa using this
 obtain ⟨t1,t2⟩:=zh5 (x:=⟨1,sp,0,0⟩) (y:=Pg.zero) hlt (show (zaC ps 1).toNat+1<=ps.length by omega) hfree
 have eF:(((zaC ps 1).toNat:Nat):Int)=zaC ps 1:=by omega
 rw [eF]at t1 t2;refine ⟨hlt,?_,y,hy,hy0⟩;unfold zcH;rw [if_pos ⟨h0,h1⟩];rw [show ((1:Nat):Int)=1 from rfl]at t1
 rw [t1];apply qbn
 intro i;have hl:(put ps (zaC ps 1).toNat 1 Pg.zero).length=ps.length:=zd8 (by omega)
 rw [qaP,qaP,hl];split
 · rfl
 · rw [zdn (by omega) (by omega)]
def zdF(x:Wk)(n:Int):Bool:=match x.taken.getLast? with | some l=>decide ((x.h.pages.getD l.toNat Pg.zero).used+n<=x.h.pw) | none=>false
def plJ(x:Wk)(n:Int):Int:=if zdF x n then x.taken.getLast?.getD (-1) else zaC x.h.pages 1
def plB(x:Wk)(n:Int):Bool:=zdF x n || decide (0<=zaC x.h.pages 1)
def plPs(x:Wk)(n:Int):List Pg:=if zdF x n then x.h.pages else zcH x.h.pages (zaC x.h.pages 1) (1-x.h.space)
def plT(x:Wk)(n:Int):List Int:=if zdF x n then x.taken else x.taken++[zaC x.h.pages 1]
def plW(x:Wk)(n:Int):Wk:={ x with h:={ x.h with pages:=zf4 (plPs x n) (plJ x n).toNat n },taken:=plT x n }
def plA(x:Wk)(n:Int):Int:=4096+plJ x n*x.h.pw+((plPs x n).getD (plJ x n).toNat Pg.zero).used
structure PlOK (x:Wk):Prop where
 pw0:16<=x.h.pw
 pw1:x.h.pw<=64
 np0:1<=x.h.pages.length
 np1:x.h.pages.length<=64
 sp0:0<=x.h.space
 sp1:x.h.space<=1
 tk:x.taken.length<=1000
 last:∀ l,x.taken.getLast?=some l->∃ k:Nat,l=k/\∃ g,x.h.pages[k]?=some g/\0<=g.used/\g.used<=x.h.pw
theorem zfX{x:Wk}{n:Int}(hx:PlOK x)(hb:plB x n=true):
 ∃ j:Nat,∃ y:Pg,plJ x n=j/\j<x.h.pages.length/\(plPs x n).length=x.h.pages.length/\(plPs x n)[j]?=some y/\0<=y.used/\y.used<=x.h.pw /\
  ((zdF x n=true/\plPs x n=x.h.pages/\x.taken.getLast?=some (j:Int)/\y.used+n<=x.h.pw)\/(zdF x n=false/\zaC x.h.pages 1=j/\plPs x n=x.h.pages.set j ⟨1,1-x.h.space,0,0⟩/\y=⟨1,1-x.h.space,0,0⟩/\∃ z,x.h.pages[j]?=some z/\z.kind=0)):=by
 cases hr:zdF x n
 · unfold plB at hb;rw [hr,Bool.false_or]at hb;have hF:=qar hb;have s0:=hx.sp0;have s1:=hx.sp1;have p0:=hx.pw0;obtain ⟨f1,f2,z,f3,f4⟩:=zm8 (ps:=x.h.pages) (sp:=1-x.h.space) (by omega) (by omega) hF
   have e1:plPs x n=x.h.pages.set (zaC x.h.pages 1).toNat ⟨1,1-x.h.space,0,0⟩:=by unfold plPs;rw [hr];exact f2
   refine ⟨(zaC x.h.pages 1).toNat,⟨1,1-x.h.space,0,0⟩,by unfold plJ;rw [hr];simp;omega,f1,by rw [e1,List.length_set],by rw [e1,qaP,if_pos rfl,if_pos f1],by simp,by simp only;omega,Or.inr ⟨rfl,by omega,e1,rfl,z,f3,f4⟩⟩
 · have h1:=hr;unfold zdF at h1;cases hl:x.taken.getLast? with
   | none=>rw [hl]at h1;cases h1
   | some l=>
    rw [hl]at h1;obtain ⟨k,rfl,g,g1,g2,g3⟩:=hx.last l hl;have hk:=(qah.1 g1).1;have h2:=qar h1;rw [qad,zar g1]at h2;have e1:plPs x n=x.h.pages:=by unfold plPs;rw [hr];rfl
    exact ⟨k,g,by unfold plJ;rw [hr,hl];rfl,hk,by rw [e1],by rw [e1];exact g1,g2,g3,Or.inl ⟨rfl,e1,rfl,h2⟩⟩
def evWd(x:Wk)(a:Int):Int:=zao x.h.words a
def evI(x:Wk)(a:Int):Int:=ofI x.h.pw x.h.np a
def evN(x:Wk)(a:Int):Int:=zaT (decK (evWd x a).toNat) (decN (evWd x a).toNat) (decM (evWd x a).toNat)
def zhw(x:Wk)(a:Int):Bool:=decide ((x.h.pages.getD (evI x a).toNat Pg.zero).kind=2)
def spc(ps:List Pg)(i k:Nat)(sp:Int):List Pg:=ps.mapIdx fun j y=>if i<=j/\j<k then ⟨y.kind,sp,y.used,y.pins⟩ else y
def zcn(ps:List Pg)(i:Nat):Nat:=i+1+((ps.drop (i+1)).takeWhile fun y=>decide (y.kind=3)).length
def zcx(x:Wk)(i:Nat):Wk:={ x with h:={ x.h with pages:=spc x.h.pages i (zcn x.h.pages i) (1-x.h.space) } }
def zlh(x:Wk)(a:Int):List Int:=zaz (zeL x.h.words (plA x (evN x a)) a (evN x a)) a [fwdV (plA x (evN x a))]
def zbA(x:Wk)(a:Int):Wk:={ plW x (evN x a) with h:={ (plW x (evN x a)).h with words:=zlh x a },queue:=x.queue++[plA x (evN x a)],r0:=wrap64 (x.r0+1) }
def evC(x:Wk)(a:Int):Nat :=
 if a=0\/a∈x.queue then 0 else if ¬a∈x.old then 1 else if okT (evWd x a).toNat then 2
 else if ¬ofE x.h.pw x.h.np a=0\/(x.h.pages.length:Int)<=evI x a then 3
 else if zd9 x (evI x a) then 4 else if zhw x a then 5 else if plB x (evN x a) then 7 else 6
def evE(x:Wk)(a:Int):Int:=match evC x a with | 1=>19 | 3=>19 | 6=>3 | _=>0
def evA(x:Wk)(a:Int):Int:=match evC x a with | 0=>a | 2=>tgtV (evWd x a).toNat | 4=>a | 5=>a | 7=>plA x (evN x a) | _=>0
def evW(x:Wk)(a:Int):Wk:=match evC x a with | 0=>x | 2=>x | 4=>zdK x a | 5=>zdK (zcx x (evI x a).toNat) a | 7=>zbA x a | _=>Wk.zero
theorem zfz{xs:List Int}(h:WB xs)(a:Int):∃ k:Nat,zao xs a=k/\k<18446744073709551616:=by
 have hx:0<=zao xs a/\zao xs a<18446744073709551616:=by
  unfold zao;split
  · rw [qaA];cases hg:xs[(a-4096).toNat]? with
    | none=>simp
    | some v=>simpa using h v (qav hg)
  · simp
 exact ⟨(zao xs a).toNat,by omega,by omega⟩
theorem zvo(x:Nat):0<=decM x/\decM x<4294967296:=by
 unfold decM;split
 · unfold dM;have:x / 65536 % 4294967296<4294967296:=Nat.mod_lt _ (by omega);omega
 · omega
theorem evN_bd(x:Wk)(a:Int):0<=evN x a/\evN x a<=1000:=by
 unfold evN zaT;split
 · rename_i h;unfold zaD at h;have:=qar h
   omega
 · omega
theorem zuw{x:Wk}{n:Int}(hx:PlOK x)(hb:plB x n=true):0<=plA x n/\plA x n<18446744073709551616:=by
 obtain ⟨j,y,s1,s2,s3,s4,s5,s6,-⟩:=zfX hx hb;have k1:=hx.pw0;have k2:=hx.pw1;have k3:=hx.np1;have hJ0:0<=(j:Int)*x.h.pw:=qa4 (by omega) (by omega)
 have hJ1:(j:Int)*x.h.pw<=64*64:=qcl (by omega) k2 (by omega) (by omega)
 unfold plA;rw [s1,qad,zar s4];omega
theorem zsd(xs:List Int)(t f n:Int):(zeL xs t f n).length<=xs.length:=by
 unfold zeL;split
 · simp
 · split
   · rename_i h0 h;have h1:=qar h.1;rw [zcX (by rw [qax,qaM];omega)]
     exact qan _
   · simp
theorem wb_move{xs:List Int}(h:WB xs)(t f n:Int):WB (zeL xs t f n):=by
 unfold zeL;split
 · exact WB.nil
 · split
   · exact zoq h (fun v hv=>h v (qb8 (qb1 hv)))
   · exact WB.nil
theorem zw9{x:Wk}{a:Int}(hx:PlOK x)(hb:plB x (evN x a)=true)(h:WB x.h.words):WB (zbA x a).h.words:=by
 show WB (zaz (zeL x.h.words _ a _) a [fwdV _])
 refine zdv (wb_move h _ _ _) (fun v hv=>?_)
 simp only [qau]at hv;subst hv;have:=zuw hx hb
 unfold fwdV;split <;> omega
theorem zgU{α:Type}{p:α->Bool}:∀ (L:List α) (n:Nat),n<=L.length->(∀ j y,j<n->L[j]?=some y->p y=true)->(∀ y,L[n]?=some y->p y=false)->(L.takeWhile p).length=n
 | [],n,hn,_,_=>by simp at hn;subst hn;rfl
 | y::r,0,_,_,h=>by rw [qcF,h y rfl];rfl
 | y::r,n+1,hn,ha,h=>by
  rw [qcF,ha 0 y (by omega) rfl]
  simp only [if_true,qaO];rw [zgU r n (by simpa using hn) (fun j z hj hz=>ha (j+1) z (by omega) (by simpa using hz)) (fun z hz=>h z (by simpa using hz))]
theorem zsL{ps:List Pg}{i k:Nat}(h1:i+1<=k)(h2:k<=ps.length)(h3:∀ l y,i<l->l<k->ps[l]?=some y->y.kind=3)(h4:∀ y,ps[k]?=some y->¬y.kind=3):zcn ps i=k:=by
 unfold zcn;rw [zgU (ps.drop (i+1)) (k-(i+1)) (by rw [qaM];omega) (fun j y hj hy=>qab (h3 (i+1+j) y (by omega) (by omega) (by rw [qba]at hy;exact hy))) (fun y hy=>qaj (h4 y (by rw [qba]at hy;rw [show i+1+(k-(i+1))=k by omega]at hy;exact hy)))]
 omega
theorem zuj(ps:List Pg)(i k:Nat)(sp:Int):(spc ps i k sp).length=ps.length:=by unfold spc;simp
theorem zh7{ps:List Pg}{i k j:Nat}{sp:Int}{y:Pg}(h:ps[j]?=some y):(spc ps i k sp)[j]?=some (if i<=j/\j<k then ⟨y.kind,sp,y.used,y.pins⟩ else y):=by
 unfold spc;rw [qcy,h];rfl
theorem zm6{ps:List Pg}{i k j:Nat}{sp:Int}(h:ps[j]?=none):(spc ps i k sp)[j]?=none:=by
 unfold spc;rw [qcy,h];rfl
theorem zrY{ps:List Pg}{i k:Nat}{sp:Int}{y:Pg}(hi:i<=k)(h:ps[k]?=some y):(spc ps i k sp).set k ⟨y.kind,sp,y.used,y.pins⟩=spc ps i (k+1) sp:=by
 apply qbn
 intro j;rw [qaP,zuj];have hk:=(qah.1 h).1;by_cases e:k=j
 · subst e;rw [if_pos rfl,if_pos hk,zh7 h,if_pos ⟨hi,by omega⟩]
 · rw [if_neg e];cases hj:ps[j]? with
   | none=>rw [zm6 hj,zm6 hj]
   | some z=>
    rw [zh7 hj,zh7 hj];by_cases c:i<=j/\j<k
    · rw [if_pos c,if_pos ⟨c.1,by omega⟩]
    · rw [if_neg c,if_neg (by omega)]
theorem zui{ps:List Pg}{i:Nat}{sp:Int}:spc ps i i sp=ps:=by
 apply qbn
 intro j;cases hj:ps[j]? with
 | none=>rw [zm6 hj]
 | some z=>rw [zh7 hj,if_neg (by omega)]
theorem zs3{pw np a:Int}(h:ofE pw np a=0):0<=ofI pw np a:=by
 cases hv:confB pw np with
 | false=>have:=(zwg (a:=a) hv).2.2;omega
 | true=>
  cases hi:inAr pw np a with
  | false=>have:=(ze6 hv hi).2.2;omega
  | true=>
   obtain ⟨h1,-,-⟩:=zg5 hv hi;have h2:=zaj hv;unfold inAr at hi;have h3:=qar hi;rw [h1];exact qbS (by omega) (by omega)
def evH(x:Wk)(a:Int):Hd:=⟨decK (evWd x a).toNat,decN (evWd x a).toNat,decM (evWd x a).toNat⟩
structure FwOK (x:Wk):Prop where
 pl:PlOK x
 wl:x.h.words.length<=100000
 ql:x.queue.length<=1000000
def zcr(x:Wk)(A:Int):Wk:={ evW x (zao x.h.words A) with h:={ (evW x (zao x.h.words A)).h with words:=zaz (evW x (zao x.h.words A)).h.words A [evA x (zao x.h.words A)] } }
def stGo:Wk->Int->List Int->Wk×Int
 | x,_,[]=>(x,0)
 | x,A,i::r=>if evE x (zao x.h.words (A+1+i))=0 then stGo (zcr x (A+1+i)) A r else (Wk.zero,evE x (zao x.h.words (A+1+i)))
def StOK:Wk->Int->List Int->Prop
 | _,_,[]=>True
 | x,A,i::r=>FwOK x/\(evE x (zao x.h.words (A+1+i))=0->StOK (zcr x (A+1+i)) A r)
def stL(x:Wk)(A:Int):List Int:=zel (evH x A).k (evH x A).n (evH x A).m
def stW(x:Wk)(A:Int):Wk:={ (stGo x A (stL x A)).1 with sc:=wrap64 ((stGo x A (stL x A)).1.sc+1),r5:=wrap64 (wrap64 ((stGo x A (stL x A)).1.r5+1)+(stL x A).length) }
def stE(x:Wk)(A:Int):Int:=(stGo x A (stL x A)).2
theorem stL_bd{x:Wk}{A i:Int}(h:i∈stL x A):0<=i/\i<=1000:=by
 unfold stL zel at h;split at h
 · rename_i hv;unfold zdk at h;have h1:=(qbC.1 h).1;obtain ⟨j,hj,rfl⟩:=qay.1 h1;have h2:=qbw.1 hj;unfold zaD at hv;have h3:=qar hv;have h4:Int.ofNat j=(j:Int):=rfl
   omega
 · cases h
theorem evA_bd{x:Wk}{a:Int}(hx:PlOK x)(h0:0<=a)(h1:a<18446744073709551616):0<=evA x a/\evA x a<18446744073709551616:=by
 unfold evA;split
 · exact ⟨h0,h1⟩
 · unfold tgtV;split
   · rename_i h;unfold okT at h;rw [qae]at h;have h2:=qar h.2;omega
   · omega
 · exact ⟨h0,h1⟩
 · exact ⟨h0,h1⟩
 · rename_i h;refine zuw hx ?_;unfold evC at h;split at h
   · omega
   split at h
   · omega
   split at h
   · omega
   split at h
   · omega
   split at h
   · omega
   split at h
   · omega
   split at h
   · assumption
   · omega
 · omega
theorem wb_next{x:Wk}{A:Int}(hx:PlOK x)(hw:WB x.h.words)(hy:WB (evW x (zao x.h.words A)).h.words):WB (zcr x A).h.words:=by
 obtain ⟨k,h1,h2⟩:=zfz hw A;refine zdv hy (fun v hv=>?_)
 simp only [qau]at hv;subst hv;exact evA_bd hx (by omega) (by omega)
theorem evW_wl{x:Wk}{n:Nat}(h:x.h.words.length<=n)(a:Int):(evW x a).h.words.length<=n:=by
 unfold evW;split
 · exact h
 · exact h
 · exact h
 · exact h
 · show (zaz (zeL x.h.words _ a _) a [_]).length<=n
   unfold zaz;split
   · rename_i hk;have h1:=qar hk;rw [zcX (by omega)]
     exact qaF (zsd _ _ _ _) h
   · simp
 · exact qbb _
def allV:Nat->Wk->Wk×Int
 | 0,x=>(x,0)
 | f+1,x=>match x.queue[x.sc.toNat]? with
  | none=>(x,0)
  | some A=>if stE x A=0 then allV f (stW x A) else (Wk.zero,stE x A)
def zvF:Nat->Wk->Prop
 | 0,_=>False
 | f+1,x=>∃ k:Nat,x.sc=k/\k<=1000000/\(x.queue[k]?=none\/∃ A,x.queue[k]?=some A/\0<=A/\A<=1000000/\x.h.words.length<=100000/\StOK x A (stL x A)/\(stE x A=0->(stW x A).sc=((k+1:Nat):Int)/\zvF f (stW x A)))
theorem zn4{f:Nat}{x:Wk}{k:Nat}(hk:x.sc=k)(h:x.queue[k]?=none):allV (f+1) x=(x,0):=by
 unfold allV;rw [hk,qad,h]
theorem zri{f:Nat}{x:Wk}{k:Nat}{A:Int}(hk:x.sc=k)(h:x.queue[k]?=some A):allV (f+1) x=if stE x A=0 then allV f (stW x A) else (Wk.zero,stE x A):=by
 rw [allV,hk,qad,h]
def zbE(sp:Int)(l:List Pg):Bool:=l.all fun t=>decide (t.kind=3/\t.space=sp)
def zfd(pw np:Int)(ps:List Pg):Nat->Int
 | 0=>0
 | i+1=>if (ps.getD i Pg.zero).kind=2 then max 0 (zax pw np (ps.getD i Pg.zero).used-1) else max 0 (zfd pw np ps i-1)
theorem zjX(sp:Int):∀ (l:List Pg) (m:Nat),m<=zgq sp l↔(m<=l.length/\zbE sp (l.take m)=true)
 | [],m=>by
  rw [zgq];constructor
  · intro h;obtain rfl:m=0:=by omega
    exact ⟨qan _,rfl⟩
  · rintro ⟨h,-⟩;exact h
 | x::r,0=>by simp [zbE]
 | x::r,m+1=>by
  rw [zgq,qck,qaO];have ih:=zjX sp r m;have e:zbE sp (x::r.take m)=(decide (x.kind=3/\x.space=sp)&&zbE sp (r.take m)):=rfl
  rw [e,qae,qaa];by_cases h:x.kind=3/\x.space=sp
  · rw [if_pos h];constructor
    · intro a;obtain ⟨a1,a2⟩:=ih.1 (by omega)
      exact ⟨by omega,h,a2⟩
    · rintro ⟨a1,-,a2⟩;have:=ih.2 ⟨by omega,a2⟩
      omega
  · rw [if_neg h];constructor
    · intro a;omega
    · rintro ⟨-,a,-⟩;exact absurd a h
theorem zsw{pw np:Int}{ps:List Pg}{i:Nat}{x:Pg}(hx:ps[i]?=some x){r:List Pg}{d:Int}(h:zcc pw np x r (zfd pw np ps i)=some d):d=zfd pw np ps (i+1):=by
 rw [zfd,zar hx];unfold zcc at h;split at h
 · cases h
 · split at h
   · rename_i k0;rw [if_neg (by omega)]
     split at h
     · exact (Option.some.inj h).symm
     · cases h
   · split at h
     · rename_i k1;rw [if_neg (by omega)]
       split at h
       · cases h
       · exact (Option.some.inj h).symm
     · split at h
       · rename_i k2;rw [if_pos k2];split at h
         · cases h
         · exact (Option.some.inj h).symm
       · rename_i k2;rw [if_neg k2];split at h
         · split at h
           · exact (Option.some.inj h).symm
           · cases h
         · cases h
theorem zkx{pw np:Int}{ps:List Pg}(h:zaL pw np ps 0=true):∀ i,i<=ps.length->zaL pw np (ps.drop i) (zfd pw np ps i)=true
 | 0,_=>by rw [qb5];exact h
 | i+1,hi=>by
  have ih:=zkx h i (by omega)
  have hx:ps[i]?=some (ps[i]'(by omega)):=qal _
  rw [qaW (by omega),zaL]at ih
  cases hs:zcc pw np (ps[i]'(by omega)) (ps.drop (i+1)) (zfd pw np ps i) with
  | none=>rw [hs]at ih;cases ih
  | some d=>rw [hs]at ih;rw [<-zsw hx hs];exact ih
def osz(h:Hp)(a:Int):Int:=(atH h a).n+1
def zdl(h:Hp)(g:Pg):Int:=if g.kind=2 then zax h.pw h.np g.used else 1
theorem zfv{pw np n:Int}(h:1<=zax pw np n):n<=zax pw np n*pw/\zax pw np n<=4/\confB pw np=true/\1<=n:=by
 by_cases hc:confB pw np=true/\1<=n
 · rw [zgA hc.1 hc.2]at h ⊢
   refine ⟨?_,?_,hc.1,hc.2⟩
   · unfold zeK at h ⊢
     repeat' split
     all_goals first | omega | (exfalso;simp_all)
   · unfold zeK at h ⊢
     repeat' split
     all_goals omega
 · rw [zgB (by
    by_cases h1:confB pw np=true
    · right;have:¬1<=n:=fun h2=>hc ⟨h1,h2⟩;omega
    · left;simpa using h1)]at h
   omega
theorem zdJ{pw np:Int}{ps:List Pg}(h:zaL pw np ps 0=true){i:Nat}{g:Pg}(hg:ps[i]?=some g)(hk:g.kind=2):
 1<=zax pw np g.used/\(i:Int)+zax pw np g.used<=ps.length/\∀ t:Nat,i<t->(t:Int)<i+zax pw np g.used->∃ y,ps[t]?=some y/\y.kind=3/\y.space=g.space:=by
 have hi:i<ps.length:=(qah.1 hg).1;have h1:=zkx h i (by omega)
 have e:ps.drop i=g::ps.drop (i+1):=by
  obtain ⟨hlt,rfl⟩:=qah.1 hg;exact qaW hlt
 rw [e,zaL]at h1;have h2:¬(zax pw np g.used<1\/(zgq g.space (ps.drop (i+1)):Int)<zax pw np g.used-1):=by
  intro hb;have:zcc pw np g (ps.drop (i+1)) (zfd pw np ps i)=none:=by
   unfold zcc;split
   · rfl
   · rw [if_neg (by omega:¬g.kind=0),if_neg (by omega:¬g.kind=1)]
  rw [this]at h1;cases h1
 have h3:(zax pw np g.used-1).toNat<=zgq g.space (ps.drop (i+1)):=by omega
 obtain ⟨h4,h5⟩:=(zjX _ _ _).1 h3;rw [qaM]at h4;refine ⟨by omega,by omega,fun t ht ht2=>?_⟩
 have h6:t<ps.length:=by omega
 refine ⟨ps[t],qal h6,?_⟩;unfold zbE at h5;rw [qaQ]at h5;have h7:=h5 ps[t] (by
  rw [List.mem_iff_getElem?];refine ⟨t-(i+1),?_⟩;rw [qa8,if_pos (by omega),qba]
  rw [show i+1+(t-(i+1))=t from by omega,qal h6])
 exact qar h7
structure Begins (h:Hp) (a:Int) (i j:Nat) (g:Pg):Prop where
 ok:okH h=true
 oi:ofI h.pw h.np a=i
 il:i<h.pages.length
 jl:(j:Int)<h.pw
 ad:a=4096+i*h.pw+j
 pg:h.pages[i]?=some g
 od:okD (zap h a)=true
 hd:atH h a=hdOf (zap h a)
 sz:osz h a=dN (zap h a)+1
 kd:(g.kind=1/\j+osz h a<=g.used/\g.used<=h.pw)\/(g.kind=2/\j=0/\osz h a=g.used/\1<=zax h.pw h.np g.used)
 wl:a+osz h a<=4096+h.words.length
theorem zb8{h:Hp}{a:Int}(e:atE h a=0):∃ i j g,Begins h a i j g:=by
 have h1:okH h=true:=by
  cases h1:okH h
  · unfold atE at e;rw [h1]at e;simp at e
  · rfl
 have h5:ofE h.pw h.np a=0:=by
  by_cases h5:ofE h.pw h.np a=0
  · exact h5
  · unfold atE at e;rw [if_pos h1,if_neg h5]at e;cases e
 have h6:atB h a=true:=by
  cases h6:atB h a
  · unfold atE at e;rw [if_pos h1,if_pos h5,h6]at e;simp at e
  · rfl
 obtain ⟨hin,⟨i,j,e1,e2,hi,hj,ha⟩,t,ht,htl⟩:=zuJ h1 h5;have hg:h.pages[i]?=some h.pages[i]:=qal hi
 have hp:zct h a=h.pages[i]:=by unfold zct;rw [e1,qad];exact zar hg
 have hh:atH h a=hdOf (zap h a):=by unfold atH;rw [if_pos e]
 have hz:osz h a=dN (zap h a)+1:=by unfold osz;rw [hh];rfl
 unfold atB at h6;rw [hp,e2]at h6;simp only [qae,qaa]at h6;obtain ⟨⟨⟨k1,k2⟩,k3⟩,k4⟩:=h6;obtain ⟨c1,c2,c3,c4,c5,c6,c7⟩:=zan h1;obtain ⟨p1,p2,p3,p4,p5⟩:=zaj c1;have hm:=zaI _ _ _ _ c7 _ (qav hg);have pp:=za1 (p:=i) c1 (by omega) (by omega)
 have kd:(h.pages[i].kind=1/\j+osz h a<=h.pages[i].used/\h.pages[i].used<=h.pw)\/(h.pages[i].kind=2/\j=0/\osz h a=h.pages[i].used/\1<=zax h.pw h.np h.pages[i].used):=by
  rcases k1 with k1 | k1
  · left
    rw [if_pos k1]at k4;have:=qar k4
    have h9:=hm.2.2.2.2.2.1 k1;refine ⟨k1,by rw [hz];omega,h9.2⟩
  · right
    rw [if_neg (by omega)]at k4
    obtain ⟨m1,m2⟩:=qar k4;refine ⟨k1,by omega,by rw [hz];exact m2,hm.2.2.2.2.2.2.1 k1⟩
 refine ⟨i,j,h.pages[i],h1,e1,hi,hj,ha,hg,k3,hh,hz,kd,?_⟩;rcases kd with ⟨k,l,m⟩ | ⟨k,l,m,n⟩
 · omega
 · obtain ⟨t1,t2,t3⟩:=zdJ c7 hg k;obtain ⟨f1,f2,-⟩:=zfv n;have:(i:Int)*h.pw+zax h.pw h.np h.pages[i].used*h.pw<=h.np*h.pw:=by
    rw [<-qa7];exact qaK (by omega) (by omega)
   omega
theorem Begins.pos{h:Hp}{a:Int}{i j:Nat}{g:Pg}(b:Begins h a i j g):1<=osz h a/\4096<=a:=by
 obtain ⟨c1,c2,c3,c4,c5,c6,c7⟩:=zan b.ok;obtain ⟨p1,p2,p3,p4,p5⟩:=zaj c1;have pp:=za1 (p:=i) c1 (by omega) (by have:=b.il;omega)
 have:=b.sz
 have:=b.ad
 omega
theorem Begins.upto{h:Hp}{a:Int}{i j:Nat}{g:Pg}(b:Begins h a i j g):1<=zdl h g/\4096+(i:Int)*h.pw<=a/\a+osz h a<=4096+((i:Int)+zdl h g)*h.pw/\∀ t:Nat,i<t->(t:Int)<i+zdl h g->∃ y,h.pages[t]?=some y/\y.kind=3:=by
 obtain ⟨c1,c2,c3,c4,c5,c6,c7⟩:=zan b.ok;obtain ⟨p1,p2,p3,p4,p5⟩:=zaj c1;have ha:=b.ad;rw [qa7];rcases b.kd with ⟨k,l,m⟩ | ⟨k,l,m,n⟩
 · have e:zdl h g=1:=by unfold zdl;rw [if_neg (by omega)]
   rw [e,qa5];exact ⟨by omega,by omega,by omega,fun t h1 h2=>by omega⟩
 · have e:zdl h g=zax h.pw h.np g.used:=by unfold zdl;rw [if_pos k]
   obtain ⟨f1,f2,-⟩:=zfv n;obtain ⟨t1,t2,t3⟩:=zdJ c7 b.pg k;rw [e];refine ⟨by omega,by omega,by omega,fun t h1 h2=>?_⟩
   obtain ⟨y,h3,h4,-⟩:=t3 t h1 h2;exact ⟨y,h3,h4⟩
theorem zpN{h:Hp}{a b:Int}{i j k l:Nat}{g f:Pg}(ha:Begins h a i j g)(hb:Begins h b k l f)(hik:i<k):a+osz h a<=b:=by
 obtain ⟨u1,u2,u3,u4⟩:=ha.upto;obtain ⟨v1,v2,v3,v4⟩:=hb.upto;obtain ⟨c1,-⟩:=zan ha.ok;obtain ⟨p1,p2,p3,p4,p5⟩:=zaj c1;have h1:¬(k:Int)<i+zdl h g:=fun hlt=>by
  obtain ⟨y,y1,y2⟩:=u4 k hik hlt;rw [hb.pg]at y1;injection y1 with y1
  subst y1;rcases hb.kd with ⟨z,-⟩ | ⟨z,-⟩ <;> omega
 have:((i:Int)+zdl h g)*h.pw<=(k:Int)*h.pw:=qaK (by omega) (by omega)
 omega
theorem zaJ{h:Hp}{a:Int}{i j:Nat}{g:Pg}(ha:Begins h a i j g){k:Nat}{f:Pg}(hf:h.pages[k]?=some f)(hk:f.kind=0):a+osz h a<=4096+(k:Int)*h.pw\/4096+(k:Int)*h.pw+h.pw<=a:=by
 obtain ⟨u1,u2,u3,u4⟩:=ha.upto;obtain ⟨c1,-⟩:=zan ha.ok;obtain ⟨p1,p2,p3,p4,p5⟩:=zaj c1;have hne:i≠k:=fun e=>by
  subst e;have:=ha.pg
  rw [hf]at this;injection this with this
  subst this;rcases ha.kd with ⟨z,-⟩ | ⟨z,-⟩ <;> omega
 by_cases hik:i<k
 · left
   have h1:¬(k:Int)<i+zdl h g:=fun hlt=>by
    obtain ⟨y,y1,y2⟩:=u4 k hik hlt;rw [hf]at y1;injection y1 with y1
    subst y1;omega
   have:((i:Int)+zdl h g)*h.pw<=(k:Int)*h.pw:=qaK (by omega) (by omega)
   omega
 · right
   have e1:((k:Int)+1)*h.pw<=(i:Int)*h.pw:=qaK (by omega) (by omega)
   rw [qa7,qa5]at e1;omega
theorem zkd(h:Hp)(i:Nat)(u:Nat)(hc:confB h.pw h.np=true)(hi:(i:Int)<h.np)(hu:(u:Int)<=h.pw):∀ (f o:Nat) (l:List Int),u-o<=f->zck h i false u o=some l ->
 (∀ a∈l,4096+(i:Int)*h.pw+o<=a)/\l.Pairwise (fun a b=>a+osz h a<=b)
 | f,o,l,hf,hl=>by
  by_cases hlt:o<u
  · have he:atE h (za7 h.pw h.np i o)=0:=by
     by_cases he:atE h (za7 h.pw h.np i o)=0
     · exact he
     · rw [zdb hlt he]at hl;cases hl
    have hA:za7 h.pw h.np i o=4096+(i:Int)*h.pw+o:=(zdN hc (by unfold inPg;exact qab (by omega))).1
    rw [zdg hlt he]at hl;obtain ⟨l2,hl2,rfl⟩:=qbZ.1 hl;match f,hf with
    | f+1,hf=>
     have hn:=(zdT he).2.2.2.2.1;obtain ⟨s1,s2⟩:=zkd h i u hc hi hu f _ l2 (by omega) hl2
     refine ⟨fun a ha=>?_,List.pairwise_cons.2 ⟨fun b hb=>?_,s2⟩⟩
     · rcases qas.1 ha with rfl | ha
       · omega
       · have:=s1 a ha;omega
     · have:=s1 b hb
       unfold osz;omega
    | 0,hf=>omega
  · rw [zbS hlt]at hl;obtain rfl:=Option.some.inj hl;exact ⟨fun a ha=>(by cases ha),List.Pairwise.nil⟩
theorem zje{h:Hp}(h1:okH h=true)(i:Nat)(hi:i<h.pages.length):(zaB h i).Pairwise (fun a b=>a+osz h a<=b)/\∀ a∈zaB h i,∃ j g,Begins h a i j g:=by
 obtain ⟨c1,c2,c3,c4,c5,c6,c7⟩:=zan h1;obtain ⟨p1,p2,p3,p4,p5⟩:=zaj c1;have hg:h.pages[i]?=some h.pages[i]:=qal hi
 have hpg:pgAt h i=h.pages[i]:=by unfold pgAt;rw [qad];exact zar hg
 have hm:=zaI _ _ _ _ c7 _ (qav hg);have hno:¬((i:Int)<0\/(h.pages.length:Int)<=i):=by omega
 by_cases h3:(pgAt h i).kind=0\/(pgAt h i).kind=3
 · rw [(zfn h1 hno h3).2];exact ⟨List.Pairwise.nil,fun a ha=>by cases ha⟩
 · rw [(zem h1 hno h3).2];rw [hpg]at h3;have hk:h.pages[i].kind=1\/h.pages[i].kind=2:=by omega
   cases hw:zcI h i with
   | none=>exact ⟨List.Pairwise.nil,fun a ha=>by cases ha⟩
   | some l=>
    rw [Option.getD_some];unfold zcI at hw;rw [hpg]at hw;have hat:=zqi h i _ _ _ 0 l (qan _) hw;have hbg:∀ a∈l,∃ j g,Begins h a i j g:=fun a ha=>by
     obtain ⟨e1,o,o1,o2,o3⟩:=hat a ha;obtain ⟨i2,j,g,hb⟩:=zb8 e1;have hi2:i2=i:=by
      have h4:=hb.oi;rw [o3]at h4;cases hpi:inPg h.pw h.np i o with
      | false=>
       have h8:=(zn5 c1 hpi).1;have:=hb.pos.2
       omega
      | true=>
       obtain ⟨a1,a2,a3⟩:=zim c1 hpi;rw [(zdN c1 hpi).1,(zg5 c1 a1).1,a2]at h4;omega
     subst hi2;exact ⟨j,g,hb⟩
    refine ⟨?_,hbg⟩;rcases hk with hk | hk
    · rw [show decide (h.pages[i].kind=2)=false from qaj (by omega)]at hw
      have h9:=hm.2.2.2.2.2.1 hk;exact (zkd h i _ c1 (by omega) (by omega) _ 0 l (qan _) hw).2
    · rw [show decide (h.pages[i].kind=2)=true from qab hk]at hw
      by_cases hlt:0<h.pages[i].used.toNat
      · by_cases he:atE h (za7 h.pw h.np i ((0:Nat):Int))=0
        · rw [zdU hlt he]at hw;obtain rfl:=Option.some.inj hw;exact List.pairwise_singleton _ _
        · rw [zdb hlt he]at hw;cases hw
      · rw [zbS hlt]at hw;obtain rfl:=Option.some.inj hw;exact List.Pairwise.nil
theorem zdC{h:Hp}(h1:okH h=true):∀ k:Nat,k<=h.pages.length->(zbC h k).Pairwise (fun a b=>a+osz h a<=b)/\∀ a∈zbC h k,∃ i j g,i<k/\Begins h a i j g
 | 0,_=>by
  have:zbC h 0=[]:=rfl
  rw [this];exact ⟨List.Pairwise.nil,fun a ha=>by cases ha⟩
 | k+1,hk=>by
  obtain ⟨s1,s2⟩:=zdC h1 k (by omega)
  obtain ⟨t1,t2⟩:=zje h1 k (by omega)
  rw [zeB];refine ⟨List.pairwise_append.2 ⟨s1,t1,fun a ha b hb=>?_⟩,fun a ha=>?_⟩
  · obtain ⟨i,j,g,hi,hba⟩:=s2 a ha;obtain ⟨l,f,hbb⟩:=t2 b hb;exact zpN hba hbb hi
  · rcases qao.1 ha with ha | ha
    · obtain ⟨i,j,g,hi,hba⟩:=s2 a ha;exact ⟨i,j,g,by omega,hba⟩
    · obtain ⟨j,g,hba⟩:=t2 a ha;exact ⟨k,j,g,by omega,hba⟩
theorem zdc(h:Hp):(zaf h).Pairwise (fun a b=>a+osz h a<=b):=by
 unfold zaf zb7;refine List.Pairwise.filter _ ?_;unfold zat;by_cases h1:okH h=true
 · rw [if_pos h1];split
   · exact (zdC h1 _ (qan _)).1
   · exact List.Pairwise.nil
 · rw [if_neg h1];exact List.Pairwise.nil
theorem zfl{R:Int->Int->Prop}:∀ {l:List Int},l.Pairwise R->∀ {a b:Int},a∈l->b∈l->a=b\/R a b\/R b a
 | [],_,a,b,ha,_=>by cases ha
 | c::l,hp,a,b,ha,hb=>by
  obtain ⟨h1,h2⟩:=List.pairwise_cons.1 hp;rcases qas.1 ha with ha2 | ha2 <;> rcases qas.1 hb with hb2 | hb2
  · exact Or.inl (ha2.trans hb2.symm)
  · subst ha2;exact Or.inr (Or.inl (h1 _ hb2))
  · subst hb2;exact Or.inr (Or.inr (h1 _ ha2))
  · exact zfl h2 ha2 hb2
theorem zcL{h:Hp}{a b:Int}(ha:a∈zaf h)(hb:b∈zaf h)(hne:a≠b):a+osz h a<=b\/b+osz h b<=a :=
 (zfl (zdc h) ha hb).resolve_left hne
theorem zai{h:Hp}{a:Int}(ha:a∈zaf h):∃ i j g,Begins h a i j g:=zb8 (zco ha).1
theorem zaM{len:Nat}{a:Int}{n:Nat}:okA len a n=true↔4096<=a/\a+n<=4096+len:=by
 unfold okA;rw [qaa];omega
theorem zbK(xs:List Int){a:Int}(h:4096<=a):zao xs a=(xs[(a-4096).toNat]?).getD 0:=by
 unfold zao;by_cases hk:okA xs.length a 1=true
 · rw [if_pos hk,qaA]
 · rw [if_neg hk];have:xs[(a-4096).toNat]?=none:=by
    rw [qcm];have h2:¬(4096<=a/\a+(1:Nat)<=4096+xs.length):=fun c=>hk (zaM.2 c)
    omega
   rw [this];rfl
theorem zj1(xs:List Int){a:Int}(h:a<4096):zao xs a=0:=by
 unfold zao okA;rw [if_neg];simp only [qaa];omega
theorem zcB{xs l:List Int}{p:Int}(h:okA xs.length p l.length=true):(zaz xs p l).length=xs.length:=by
 unfold zaz;rw [if_pos h]
 have:=zaM.1 h
 exact zcX (by omega)
theorem za5{xs l:List Int}{p:Int}(h:okA xs.length p l.length=true){a:Int}(ha:a<p\/p+l.length<=a):zao (zaz xs p l) a=zao xs a:=by
 have h2:=zaM.1 h;by_cases h4:4096<=a
 · rw [zbK _ h4,zbK _ h4];unfold zaz;rw [if_pos h,zei (by omega) (by omega)]
 · rw [zj1 _ (by omega),zj1 _ (by omega)]
theorem zdx{xs:List Int}{p v:Int}(h:okA xs.length p 1=true):zao (zaz xs p [v]) p=v:=by
 have h2:=zaM.1 h;rw [zbK _ h2.1];unfold zaz;rw [if_pos (show okA xs.length p [v].length=true from h),zdj (by simp;omega) (qan _) (by simp),qbL];rfl
theorem znF{xs:List Int}{t f n:Int}(h0:0<=n)(ht:okA xs.length t n.toNat=true)(hf:okA xs.length f n.toNat=true):(zeL xs t f n).length=xs.length:=by
 unfold zeL;rw [if_neg (by omega),if_pos ⟨ht,hf⟩]
 have h1:=zaM.1 ht;have h2:=zaM.1 hf;refine zcX ?_;rw [qax,qaM];omega
theorem zhk{xs:List Int}{t f n:Int}(h0:0<=n)(ht:okA xs.length t n.toNat=true)(hf:okA xs.length f n.toNat=true){a:Int}(ha:a<t\/t+n<=a):zao (zeL xs t f n) a=zao xs a:=by
 have h1:=zaM.1 ht;have h2:=zaM.1 hf;by_cases h4:4096<=a
 · rw [zbK _ h4,zbK _ h4];unfold zeL;rw [if_neg (by omega),if_pos ⟨ht,hf⟩,zei (by rw [qax,qaM];omega) (by rw [qax,qaM];omega)]
 · rw [zj1 _ (by omega),zj1 _ (by omega)]
theorem zjf{xs:List Int}{t f n:Int}(h0:0<=n)(ht:okA xs.length t n.toNat=true)(hf:okA xs.length f n.toNat=true){k:Int}(hk0:0<=k)(hk:k<n):zao (zeL xs t f n) (t+k)=zao xs (f+k):=by
 have h1:=zaM.1 ht;have h2:=zaM.1 hf;rw [zbK _ (by omega),zbK _ (by omega)]
 unfold zeL;rw [if_neg (by omega),if_pos ⟨ht,hf⟩,zdj (by rw [qax,qaM];omega) (by omega) (by rw [qax,qaM];omega),qa8,if_pos (by omega),qba]
 congr 2;omega
def zbp(x:Wk)(q:Int):Prop:=∃ (k:Nat) (g:Pg),(k:Int)∈x.taken/\x.h.pages[k]?=some g/\4096+(k:Int)*x.h.pw<=q/\okD (evWd x q).toNat=true/\q+evN x q<=4096+(k:Int)*x.h.pw+g.used
def zcE(x:Wk)(a:Int):Bool:=decide (¬a∈x.queue) && !okT (evWd x a).toNat
structure Inv (h:Hp) (x:Wk):Prop where
 ok:okH h=true
 pw:x.h.pw=h.pw
 np:x.h.np=h.np
 sp:x.h.space=h.space
 old:x.old=zaf h
 wl:x.h.words.length=h.words.length
 pl:x.h.pages.length=h.pages.length
 tk:∀ t∈x.taken,∃ (k:Nat) (g0 g:Pg),t=(k:Int)/\h.pages[k]?=some g0/\g0.kind=0/\x.h.pages[k]?=some g/\g.kind=1/\0<=g.used/\g.used<=h.pw
 pg:∀ (k:Nat) (g0:Pg),h.pages[k]?=some g0->¬(k:Int)∈x.taken->∃ g,x.h.pages[k]?=some g/\g.kind=g0.kind/\g.used=g0.used
 tl:x.taken.length<=zbR x.h.pages
 un:∀ a∈zaf h,evWd x a=zao h.words a\/(okT (evWd x a).toNat=true/\¬a∈x.queue/\zd9 x (ofI h.pw h.np a)=false)
 qs:∀ q∈x.queue,q∈zaf h\/zbp x q
 dj:∀ q∈x.queue,∀ r∈x.queue,zbp x q->zbp x r->q≠r->q+evN x q<=r\/r+evN x r<=q
 cnt:x.queue.length+((zaf h).filter (zcE x)).length<=(zaf h).length
structure Later (x y:Wk):Prop where
 sc:y.sc=x.sc
 qu:∃ l,y.queue=x.queue++l
 hd:∀ q∈x.queue,evWd y q=evWd x q
theorem Later.refl(x:Wk):Later x x:=⟨rfl,⟨[],by simp⟩,fun _ _=>rfl⟩
theorem Later.mem{x y:Wk}(h:Later x y){q:Int}(hq:q∈x.queue):q∈y.queue:=by
 obtain ⟨l,e⟩:=h.qu;rw [e];exact qa6 _ hq
theorem Later.trans{x y z:Wk}(h:Later x y)(k:Later y z):Later x z:=by
 refine ⟨k.sc.trans h.sc,?_,fun q hq=>(k.hd q (h.mem hq)).trans (h.hd q hq)⟩
 obtain ⟨l,e⟩:=h.qu;obtain ⟨m,f⟩:=k.qu;exact ⟨l++m,by rw [f,e,qaG]⟩
theorem zhv{x:Wk}{a:Int}(h:okD (evWd x a).toNat=true):evN x a=dN (evWd x a).toNat+1/\(evH x a).n=dN (evWd x a).toNat:=by
 have e:=zmN h;have v:=(zcK h).2.2;refine ⟨?_,?_⟩
 · unfold evN;rw [e.1,e.2.1,e.2.2,zbs v]
 · unfold evH;exact e.2.1
theorem zdZ{h:Hp}{x:Wk}{a:Int}(ha:a∈zaf h)(e:evWd x a=zao h.words a):okD (evWd x a).toNat=true/\evN x a=osz h a/\(evH x a).n+1=osz h a/\okT (evWd x a).toNat=false:=by
 obtain ⟨i,j,g,b⟩:=zai ha;have hp:=b.pos;have h1:(evWd x a).toNat=zap h a:=by
  rw [e,zbK _ hp.2];unfold zap;rw [qaA]
 have h2:okD (evWd x a).toNat=true:=by rw [h1];exact b.od
 obtain ⟨e1,e2⟩:=zhv h2;have hs:=b.sz;rw [<-h1]at hs;refine ⟨h2,by omega,by omega,?_⟩
 rw [<-qby];exact fun c=>apart _ ⟨h2,c⟩
theorem Inv.kept{h:Hp}{x:Wk}(I:Inv h x){a:Int}(ha:a∈zaf h)(hq:a∈x.queue):evWd x a=zao h.words a :=
 (I.un a ha).elim id (fun c=>absurd hq c.2.1)
theorem Inv.conf{h:Hp}{x:Wk}(I:Inv h x):16<=h.pw/\h.pw<=64/\8<=h.np/\h.np<=64/\(h.words.length:Int)=h.np*h.pw/\(h.pages.length:Int)=h.np/\h.np*h.pw<=4096/\0<=h.space/\h.space<=1:=by
 obtain ⟨c1,c2,c3,c4,c5,c6,c7⟩:=zan I.ok;obtain ⟨p1,p2,p3,p4,p5⟩:=zaj c1;exact ⟨p1,p2,p4,p5,c2,c3,(conf_prod c1).2,c4,c5⟩
theorem Inv.qlen{h:Hp}{x:Wk}(I:Inv h x):x.queue.length<=(zaf h).length/\(zaf h).length<=4096:=by
 refine ⟨by have:=I.cnt;omega,?_⟩
 unfold zaf zb7;exact qaF (qbM _ _) (zcW h)
theorem Inv.plok{h:Hp}{x:Wk}(I:Inv h x):PlOK x:=by
 obtain ⟨c1,c2,c3,c4,c5,c6,c7,c8,c9⟩:=I.conf;have h1:=I.pl;refine ⟨by rw [I.pw];exact c1,by rw [I.pw];exact c2,by omega,by omega,by rw [I.sp];exact c8,by rw [I.sp];exact c9,?_,fun l hl=>?_⟩
 · have h2:=I.tl;have h3:=zj3 x.h.pages;omega
 · obtain ⟨k,g0,g,e,-,-,h4,-,h5,h6⟩:=I.tk l (qcG hl);exact ⟨k,e,g,h4,h5,by rw [I.pw];exact h6⟩
theorem Inv.fwok{h:Hp}{x:Wk}(I:Inv h x):FwOK x:=by
 have h1:=I.conf;have h2:=I.wl;have h3:=I.qlen;exact ⟨I.plok,by omega,by omega⟩
theorem Inv.copy{h:Hp}{x:Wk}(I:Inv h x){q:Int}(hc:zbp x q):∃ (k:Nat) (g0:Pg),h.pages[k]?=some g0/\g0.kind=0/\(k:Int)<h.np/\4096+(k:Int)*h.pw<=q/\q+evN x q<=4096+(k:Int)*h.pw+h.pw/\1<=evN x q/\okD (evWd x q).toNat=true:=by
 obtain ⟨k,g,h1,h2,h3,h4,h5⟩:=hc;obtain ⟨k2,g0,g2,e,f1,f2,f3,f4,f5,f6⟩:=I.tk _ h1;obtain rfl:k=k2:=by omega
 rw [h2]at f3;injection f3 with f3
 subst f3;have:=(zhv h4).1
 have h7:=(qah.1 f1).1;have h8:=I.conf;rw [I.pw]at h3 h5;exact ⟨k,g0,f1,f2,by omega,h3,by omega,by omega,h4⟩
theorem Inv.old_copy{h:Hp}{x:Wk}(I:Inv h x){a q:Int}(ha:a∈zaf h)(hc:zbp x q):a+osz h a<=q\/q+evN x q<=a:=by
 obtain ⟨k,g0,h1,h2,h3,h4,h5,h6,h7⟩:=I.copy hc;obtain ⟨i,j,g,b⟩:=zai ha;have:=zaJ b h1 h2
 omega
theorem Inv.inside{h:Hp}{x:Wk}(I:Inv h x){A i:Int}(hA:A∈x.queue)(h0:0<=i)(h1:i<(evH x A).n):
 okA x.h.words.length (A+1+i) 1=true/\(∀ a∈zaf h,A+1+i≠a)/\(∀ q∈x.queue,A+1+i≠q):=by
 have hcf:=I.conf;have hwl:=I.wl;rcases I.qs A hA with ho | hc
 · have e:=I.kept ho hA;obtain ⟨e1,e2,e3,e4⟩:=zdZ ho e;obtain ⟨i2,j2,g,b⟩:=zai ho;have hb:=b.pos;have hbl:=b.wl;have hold:∀ a∈zaf h,A+1+i≠a:=fun a ha eq=>by
    by_cases hne:A=a
    · omega
    · have h2:=zcL ho ha hne;obtain ⟨i3,j3,g3,b3⟩:=zai ha;have:=b3.pos
      omega
   refine ⟨zaM.2 (by omega),hold,fun q hq eq=>?_⟩
   rcases I.qs q hq with h2 | h2
   · exact hold q h2 eq
   · have h3:=I.old_copy ho h2;obtain ⟨k,g0,f1,f2,f3,f4,f5,f6,f7⟩:=I.copy h2;omega
 · obtain ⟨k,g0,f1,f2,f3,f4,f5,f6,f7⟩:=I.copy hc;obtain ⟨e1,e2⟩:=zhv f7;obtain ⟨c1,-⟩:=zan I.ok;have pp:=za1 (p:=k) c1 (by omega) f3
   have hold:∀ a∈zaf h,A+1+i≠a:=fun a ha eq=>by
    have h3:=I.old_copy ha hc;obtain ⟨i3,j3,g3,b3⟩:=zai ha;have:=b3.pos
    omega
   refine ⟨zaM.2 (by omega),hold,fun q hq eq=>?_⟩
   rcases I.qs q hq with h2 | h2
   · exact hold q h2 eq
   · by_cases hne:A=q
     · omega
     · have h3:=I.dj A hA q hq hc h2 hne;obtain ⟨k2,g2,d1,d2,d3,d4,d5,d6,d7⟩:=I.copy h2;omega
theorem zk5{p q:Int->Bool}:∀ {l:List Int},(∀ a∈l,p a=q a)->l.filter p=l.filter q
 | [],_=>rfl
 | a::l,h=>by
  rw [qca,qca,h a (qaX ..),zk5 (fun b hb=>h b (qaD _ hb))]
theorem zgF{p q:Int->Bool}{c:Int}:∀ {l:List Int},(∀ a∈l,q a=true->p a=true)->c∈l->p c=true->q c=false->(l.filter q).length+1<=(l.filter p).length
 | [],_,hc,_,_=>by cases hc
 | a::l,h,hc,hp,hq=>by
  have hle:∀ {m:List Int},(∀ a∈m,q a=true->p a=true)->(m.filter q).length<=(m.filter p).length:=by
   intro m;induction m with
   | nil=>intro _;exact qan _
   | cons b m ih=>
    intro hm;have h1:=ih (fun a ha=>hm a (qaD _ ha))
    have h2:=hm b (qaX ..);rw [qca,qca];cases hqb:q b
    · simp only [qbk,qbh];cases p b <;> simp <;> omega
    · rw [h2 hqb];simp;omega
  rw [qca,qca];rcases qas.1 hc with rfl | hc
  · rw [hp,hq];have:=hle (m:=l) (fun a ha=>h a (qaD _ ha))
    simp;omega
  · have h1:=zgF (fun a ha=>h a (qaD _ ha)) hc hp hq
    have h2:=h a (qaX ..);cases hqb:q a
    · simp only [qbk,qbh];cases p a <;> simp <;> omega
    · rw [h2 hqb];simp;omega
theorem Inv.write{h:Hp}{x:Wk}(I:Inv h x){p v:Int}(hp:okA x.h.words.length p 1=true)(h1:∀ a∈zaf h,p≠a)(h2:∀ q∈x.queue,p≠q):
 Inv h { x with h:={ x.h with words:=zaz x.h.words p [v] } }/\Later x { x with h:={ x.h with words:=zaz x.h.words p [v] } }:=by
 have hev:∀ a,p≠a->evWd { x with h:={ x.h with words:=zaz x.h.words p [v] } } a=evWd x a:=fun a ha=>by
  unfold evWd;exact za5 (l:=[v]) hp (by simp only [qbz];omega)
 have hcp:∀ q∈x.queue,(zbp { x with h:={ x.h with words:=zaz x.h.words p [v] } } q↔zbp x q):=fun q hq=>by
  unfold zbp evN;rw [hev q (h2 q hq)]
 have hn:∀ q∈x.queue,evN { x with h:={ x.h with words:=zaz x.h.words p [v] } } q=evN x q:=fun q hq=>by
  unfold evN;rw [hev q (h2 q hq)]
 refine ⟨⟨I.ok,I.pw,I.np,I.sp,I.old,?_,I.pl,I.tk,I.pg,I.tl,fun a ha=>?_,fun q hq=>?_,fun q hq r hr cq cr hne=>?_,?_⟩,⟨rfl,⟨[],by simp⟩,fun q hq=>hev q (h2 q hq)⟩⟩
 · exact (zcB (l:=[v]) hp).trans I.wl
 · rw [hev a (h1 a ha)];exact I.un a ha
 · rcases I.qs q hq with c | c
   · exact Or.inl c
   · exact Or.inr ((hcp q hq).2 c)
 · rw [hn q hq,hn r hr];exact I.dj q hq r hr ((hcp q hq).1 cq) ((hcp r hr).1 cr) hne
 · rw [zk5 (q:=zcE x) (fun a ha=>by unfold zcE;rw [hev a (h1 a ha)])];exact I.cnt
theorem zkY:∀ {ps:List Pg} {k:Nat} {z y:Pg},ps[k]?=some z->zbR (ps.set k y)+(if z.kind=0 then 0 else 1)=zbR ps+(if y.kind=0 then 0 else 1)
 | [],k,z,y,h=>by simp at h
 | a::r,0,z,y,h=>by
  simp at h;subst h
  rw [List.set_cons_zero,zbR,zbR];omega
 | a::r,k+1,z,y,h=>by
  have ih:=zkY (ps:=r) (k:=k) (z:=z) (y:=y) (by simpa using h)
  rw [List.set_cons_succ,zbR,zbR];omega
theorem zkZ:∀ {ps qs:List Pg},ps.map (·.kind)=qs.map (·.kind)->zbR ps=zbR qs
 | [],[],_=>rfl
 | [],_::_,h=>by simp at h
 | _::_,[],h=>by simp at h
 | a::r,b::s,h=>by
  simp at h
  rw [zbR,zbR,h.1,zkZ (ps:=r) (qs:=s) h.2]
theorem Inv.place{h:Hp}{x:Wk}(I:Inv h x){n:Int}(hn0:1<=n)(hn:n<=h.pw)(hb:plB x n=true):∃ (J:Nat) (u:Int) (g0 g1:Pg),
 plA x n=4096+(J:Int)*h.pw+u/\0<=u/\u+n<=h.pw/\(J:Int)<h.np/\h.pages[J]?=some g0/\g0.kind=0 /\
 (∀ k:Nat,k≠J->(plW x n).h.pages[k]?=x.h.pages[k]?)/\(plW x n).h.pages[J]?=some g1/\g1.kind=1/\g1.used=u+n /\
 (plW x n).h.pages.length=x.h.pages.length/\(J:Int)∈(plW x n).taken/\(∀ t,t∈(plW x n).taken↔t∈x.taken\/t=J)/\(plW x n).taken.length<=zbR (plW x n).h.pages /\
 ((J:Int)∈x.taken->∃ g,x.h.pages[J]?=some g/\g.used=u):=by
 have hcf:=I.conf;obtain ⟨J,y,p1,p2,p3,p4,p5,p6,p7⟩:=zfX I.plok hb;have hpl:=I.pl;have htl:=I.tl;have e1:(plW x n).h.pages=(plPs x n).set J ⟨y.kind,y.space,y.used+n,y.pins⟩:=by
  show zf4 (plPs x n) (plJ x n).toNat n=_
  unfold zf4;rw [p1,qad,zar p4]
 have e2:(plW x n).taken=plT x n:=rfl
 have hA:plA x n=4096+(J:Int)*h.pw+y.used:=by
  unfold plA;rw [p1,qad,zar p4,I.pw]
 rw [I.pw]at p6 p7;have hJ:(plW x n).h.pages[J]?=some ⟨y.kind,y.space,y.used+n,y.pins⟩:=by
  rw [e1,qaP];simp [p3,p2]
 have hu1:zbR (plW x n).h.pages=zbR (plPs x n):=by
  have:=zkY (y:=⟨y.kind,y.space,y.used+n,y.pins⟩) p4
  rw [e1];simp only at this;omega
 rcases p7 with ⟨r1,r2,r3,r4⟩ | ⟨r1,r2,r3,r4,z,r5,r6⟩
 · have hm:(J:Int)∈x.taken:=qcG r3;obtain ⟨k2,g0,g,f0,f1,f2,f3,f4,f5,f6⟩:=I.tk _ hm;obtain rfl:J=k2:=by omega
   rw [r2]at p4;rw [f3]at p4;injection p4 with p4
   subst p4;have hT:(plW x n).taken=x.taken:=by rw [e2];unfold plT;rw [if_pos r1]
   refine ⟨J,g.used,g0,_,hA,f5,r4,by omega,f1,f2,fun k hk=>?_,hJ,f4,rfl,by rw [e1,List.length_set,p3],by rw [hT];exact hm,fun t=>?_,?_,fun _=>⟨g,f3,rfl⟩⟩
   · rw [e1,qbu (by omega),r2]
   · rw [hT];constructor
     · intro h;exact Or.inl h
     · rintro (h | rfl)
       · exact h
       · exact hm
   · rw [hu1,hT,r2];exact htl
 · have hnt:¬(J:Int)∈x.taken:=fun hm=>by
    obtain ⟨k2,g0,g,f0,f1,f2,f3,f4,f5,f6⟩:=I.tk _ hm;obtain rfl:J=k2:=by omega
    rw [r5]at f3;injection f3 with f3
    subst f3;omega
   have hlt:J<h.pages.length:=by omega
   obtain ⟨g,f1,f2,f3⟩:=I.pg J h.pages[J] (qal hlt) hnt;rw [r5]at f1;injection f1 with f1
   subst f1;have hT:(plW x n).taken=x.taken++[(J:Int)]:=by rw [e2];unfold plT;rw [r1,r2];rfl
   subst r4;refine ⟨J,0,h.pages[J],_,hA,qcc _,by omega,by omega,qal hlt,by omega,fun k hk=>?_,hJ,rfl,rfl,by rw [e1,List.length_set,p3],by rw [hT];simp,fun t=>?_,?_,fun hm=>absurd hm hnt⟩
   · rw [e1,qbu (by omega),r3,qbu (by omega)]
   · rw [hT];simp
   · rw [hu1,hT,r3,qaz];have:=zkY (y:=⟨1,1-x.h.space,0,0⟩) r5
     rw [if_pos r6,if_neg (by simp)]at this
     simp only [qbz];omega
theorem zsX{x y:Wk}{i:Nat}(h1:y.h.pages[i]?=x.h.pages[i]?)(h2:y.h.space=x.h.space)(h3:(i:Int)∈y.taken↔(i:Int)∈x.taken):zd9 y i=zd9 x i:=by
 unfold zd9;rw [qad,h1,h2];cases x.h.pages[i]? with
 | none=>rfl
 | some g=>simp only [h3]
theorem Inv.begun{h:Hp}{x:Wk}(I:Inv h x){a:Int}{i j:Nat}{g:Pg}(b:Begins h a i j g):¬(i:Int)∈x.taken:=fun hm=>by
 obtain ⟨k2,g0,g2,f0,f1,f2,-⟩:=I.tk _ hm;obtain rfl:i=k2:=by omega
 have:=b.pg
 rw [f1]at this;injection this with this
 subst this;rcases b.kd with ⟨k,-⟩ | ⟨k,-⟩ <;> omega
theorem znl{a:Int}(h0:0<=a)(h1:a<4294967296):okT (fwdV a).toNat=true:=by
 rw [(zw4 h1).1];refine okT_mk ?_ ?_ <;> omega
theorem Inv.keep{h:Hp}{x:Wk}(I:Inv h x){a:Int}(ha:a∈zaf h)(hq:¬a∈x.queue)(ht:okT (evWd x a).toNat=false):Inv h (zdK x a)/\Later x (zdK x a):=by
 have e1:∀ b,evWd (zdK x a) b=evWd x b:=fun b=>rfl
 have e2:∀ b,evN (zdK x a) b=evN x b:=fun b=>rfl
 have e3:∀ b,zbp (zdK x a) b↔zbp x b:=fun b=>Iff.rfl
 have hm:∀ b,b∈(zdK x a).queue↔b∈x.queue\/b=a:=fun b=>by show b∈x.queue++[a]↔_;simp
 have hnc:∀ q,zbp x q->q≠a:=fun q hc e=>by
  subst e;have h1:=I.old_copy ha hc;obtain ⟨k,g0,f1,f2,f3,f4,f5,f6,f7⟩:=I.copy hc;obtain ⟨i,j,g,b⟩:=zai ha;have:=b.pos
  omega
 refine ⟨⟨I.ok,I.pw,I.np,I.sp,I.old,I.wl,I.pl,I.tk,I.pg,I.tl,fun b hb=>?_,fun q hqq=>?_,fun q hq2 r hr2 cq cr hne=>?_,?_⟩,⟨rfl,⟨[a],rfl⟩,fun _ _=>rfl⟩⟩
 · rcases I.un b hb with c | ⟨c1,c2,c3⟩
   · exact Or.inl c
   · refine Or.inr ⟨c1,fun hin=>?_,c3⟩
     rcases (hm b).1 hin with h2 | h2
     · exact c2 h2
     · subst h2;rw [ht]at c1;cases c1
 · rcases (hm q).1 hqq with h2 | h2
   · exact I.qs q h2
   · subst h2;exact Or.inl ha
 · have hq3:=((hm q).1 hq2).resolve_right (hnc q cq);have hr3:=((hm r).1 hr2).resolve_right (hnc r cr);exact I.dj q hq3 r hr3 cq cr hne
 · have h1:((zaf h).filter (zcE (zdK x a))).length+1<=((zaf h).filter (zcE x)).length:=by
    refine zgF (c:=a) (fun b hb hu=>?_) ha ?_ ?_
    · unfold zcE at hu ⊢
      simp only [qae,qaa]at hu ⊢;exact ⟨fun h2=>hu.1 ((hm b).2 (Or.inl h2)),hu.2⟩
    · unfold zcE;simp [hq,ht]
    · unfold zcE;rw [qaj (by simp [hm])];rfl
   have h2:(zdK x a).queue.length=x.queue.length+1:=by show (x.queue++[a]).length=_;simp
   have:=I.cnt
   omega
theorem zdV{P:Pg->Bool}:∀ {l:List Pg} {k:Nat},k<(l.takeWhile P).length->∃ y,l[k]?=some y/\P y=true
 | [],k,h=>by simp at h
 | a::l,k,h=>by
  rw [qcF]at h;split at h
  · rename_i hp;cases k with
    | zero=>exact ⟨a,rfl,hp⟩
    | succ k=>
     obtain ⟨y,h1,h2⟩:=zdV (l:=l) (k:=k) (by simpa using h)
     exact ⟨y,by simpa using h1,h2⟩
  · simp at h
theorem Inv.large{h:Hp}{x:Wk}(I:Inv h x){i:Nat}{g:Pg}(hg:x.h.pages[i]?=some g)(hk:g.kind=2):Inv h (zcx x i)/\Later x (zcx x i)/\(∀ a,evWd (zcx x i) a=evWd x a)/\(zcx x i).queue=x.queue:=by
 have hat:∀ (k:Nat) (y:Pg),x.h.pages[k]?=some y->∃ s,(zcx x i).h.pages[k]?=some ⟨y.kind,s,y.used,y.pins⟩/\(¬(y.kind=2\/y.kind=3)->s=y.space):=fun k y hy=>by
  show ∃ s,(spc x.h.pages i (zcn x.h.pages i) (1-x.h.space))[k]?=_/\_
  unfold spc;rw [qcy,hy];simp only [qbH];by_cases hr:i<=k/\k<zcn x.h.pages i
  · rw [if_pos hr];refine ⟨1-x.h.space,rfl,fun hno=>?_⟩
    exfalso
    apply hno
    by_cases e:k=i
    · subst e;rw [hg]at hy;injection hy with hy;subst hy;exact Or.inl hk
    · right
      unfold zcn at hr;obtain ⟨z,z1,z2⟩:=zdV (l:=x.h.pages.drop (i+1)) (k:=k-(i+1)) (P:=fun y=>decide (y.kind=3)) (by omega)
      rw [qba,show i+1+(k-(i+1))=k from by omega,hy]at z1
      injection z1 with z1
      subst z1;exact qar z2
  · rw [if_neg hr];exact ⟨y.space,rfl,fun _=>rfl⟩
 have hkd:(zcx x i).h.pages.map (·.kind)=x.h.pages.map (·.kind):=by
  apply qbn
  intro k;rw [qbr,qbr];cases hy:x.h.pages[k]? with
  | some y=>
   obtain ⟨s,h1,-⟩:=hat k y hy;rw [h1];rfl
  | none=>
   have:(zcx x i).h.pages[k]?=none:=by
    show (spc x.h.pages i (zcn x.h.pages i) (1-x.h.space))[k]?=none
    unfold spc;rw [qcy,hy];rfl
   rw [this]
 have hln:(zcx x i).h.pages.length=x.h.pages.length:=by
  have:=congrArg List.length hkd
  rwa [qak,qak]at this
 have hcp:∀ q,zbp (zcx x i) q->zbp x q:=fun q ⟨k,g2,c1,c2,c3,c4,c5⟩=>by
  cases hy:x.h.pages[k]? with
  | some y=>
   obtain ⟨s,h1,-⟩:=hat k y hy;rw [h1]at c2;injection c2 with c2
   exact ⟨k,y,c1,hy,c3,c4,by subst c2;exact c5⟩
  | none=>
   have h1:=qcm.1 hy;have h2:=(qah.1 c2).1;omega
 refine ⟨⟨I.ok,I.pw,I.np,I.sp,I.old,I.wl,hln.trans I.pl,fun t ht=>?_,fun k g0 hg0 hnt=>?_,?_,fun a ha=>?_,fun q hq=>?_,fun q hq r hr cq cr hne=>I.dj q hq r hr (hcp q cq) (hcp r cr) hne,I.cnt⟩,⟨rfl,⟨[],by simp [zcx]⟩,fun _ _=>rfl⟩,fun _=>rfl,rfl⟩
 · obtain ⟨k,g0,g2,f0,f1,f2,f3,f4,f5,f6⟩:=I.tk t ht;obtain ⟨s,h1,-⟩:=hat k g2 f3;exact ⟨k,g0,_,f0,f1,f2,h1,f4,f5,f6⟩
 · obtain ⟨g2,f1,f2,f3⟩:=I.pg k g0 hg0 hnt;obtain ⟨s,h1,-⟩:=hat k g2 f1;exact ⟨_,h1,f2,f3⟩
 · rw [zkZ hkd];exact I.tl
 · rcases I.un a ha with c | ⟨c1,c2,c3⟩
   · exact Or.inl c
   · refine Or.inr ⟨c1,c2,?_⟩;obtain ⟨i2,j2,g2,b⟩:=zai ha;rw [b.oi]at c3 ⊢
     obtain ⟨y,f1,f2,f3⟩:=I.pg i2 g2 b.pg (I.begun b);obtain ⟨s,h1,h2⟩:=hat i2 y f1;unfold zd9 at c3 ⊢
     rw [qad,f1]at c3;rw [qad,h1];simp only at c3 ⊢
     by_cases hk1:y.kind=1
     · rw [h2 (by omega)];exact c3
     · rw [qaj hk1];simp
 · rcases I.qs q hq with c | ⟨k,y,c1,c2,c3,c4,c5⟩
   · exact Or.inl c
   · obtain ⟨s,h1,-⟩:=hat k y c2;exact Or.inr ⟨k,_,c1,h1,c3,c4,c5⟩
theorem Inv.copied{h:Hp}{x:Wk}(I:Inv h x){a:Int}(ha:a∈zaf h)(hq:¬a∈x.queue)(ht:okT (evWd x a).toNat=false)(hpr:zd9 x (evI x a)=false)(hbig:zhw x a=false)(hpl:plB x (evN x a)=true):
 Inv h (zbA x a)/\Later x (zbA x a):=by
 obtain ⟨c1,c2,c3,c4,c5,c6,c7,c8,c9⟩:=I.conf;obtain ⟨i,j,g,b⟩:=zai ha;have hbp:=b.pos;have hbw:=b.wl;have hwl:=I.wl;have e0:evWd x a=zao h.words a:=(I.un a ha).elim id (fun c=>by rw [ht]at c;exact absurd c.1 (by decide))
 obtain ⟨e1,e2,e3,-⟩:=zdZ ha e0;have hoi:evI x a=i:=by unfold evI;rw [I.pw,I.np];exact b.oi
 obtain ⟨y,f1,f2,f3⟩:=I.pg i g b.pg (I.begun b);have hk1:g.kind=1:=by
  rcases b.kd with ⟨k,-⟩ | ⟨k,-⟩
  · exact k
  · unfold zhw at hbig;rw [hoi,qad,zar f1]at hbig;have:=qa9 hbig
    omega
 have hn:evN x a<=h.pw:=by
  rcases b.kd with ⟨k,l,m⟩ | ⟨k,-⟩ <;> omega
 have hn0:1<=evN x a:=by omega
 obtain ⟨J,u,g0,g1,hA,hu0,hun,hJ,hg0,hk0,hoth,hg1,hk11,hu1,hplen,hJt,htk,htl,hru⟩:=I.place hn0 hn hpl;obtain ⟨N,hN⟩:∃ N,evN x a=N:=⟨_,rfl⟩
 obtain ⟨T,hT⟩:∃ T,plA x N=T:=⟨_,rfl⟩
 rw [hN]at hA hn hn0 hun hoth hg1 hu1 hplen hJt htk htl e2 hpl;rw [hT]at hA;have hpp:=za1 (p:=(J:Int)) (zan I.ok).1 (by omega) hJ
 have hfree:=zaJ b hg0 hk0;have ka:okA x.h.words.length T N.toNat=true:=zaM.2 (by omega)
 have kb:okA x.h.words.length a N.toNat=true:=zaM.2 (by omega)
 have kc:okA (zeL x.h.words T a N).length a [fwdV T].length=true:=by rw [znF (by omega) ka kb];exact zaM.2 (by simp only [qbz];omega)
 have hW:(zbA x a).h.words=zaz (zeL x.h.words T a N) a [fwdV T]:=by
  show zlh x a=_
  unfold zlh;rw [hN,hT]
 have hQ:(zbA x a).queue=x.queue++[T]:=by show x.queue++[plA x (evN x a)]=_;rw [hN,hT]
 have hP:(zbA x a).h.pages=(plW x N).h.pages:=by show (plW x (evN x a)).h.pages=_;rw [hN]
 have hTk:(zbA x a).taken=(plW x N).taken:=by show (plW x (evN x a)).taken=_;rw [hN]
 have hpw:(zbA x a).h.pw=h.pw:=I.pw
 have hself:evWd (zbA x a) a=fwdV T:=by unfold evWd;rw [hW];exact zdx kc
 have hout:∀ p,p≠a->(p<T\/T+N<=p)->evWd (zbA x a) p=evWd x p:=fun p h1 h2=>by
  unfold evWd;rw [hW,za5 kc (by simp only [qbz];omega)]
  exact zhk (by omega) ka kb (by omega)
 have hnew:evWd (zbA x a) T=evWd x a:=by
  unfold evWd;rw [hW,za5 kc (by simp only [qbz];omega)]
  have:=zjf (k:=0) (by omega) ka kb (qcc _) (by omega)
  simpa using this
 have hold:∀ c∈zaf h,c≠a->evWd (zbA x a) c=evWd x c:=fun c hc hne=>by
  obtain ⟨i3,j3,g3,b3⟩:=zai hc;have h1:=zaJ b3 hg0 hk0;have h2:=b3.pos;exact hout c hne (by omega)
 have hbelow:∀ q,zbp x q->q+evN x q<=T\/T+N<=q:=fun q hc=>by
  have hc2:=hc;obtain ⟨k,y2,d1,d2,d3,d4,d5⟩:=hc;obtain ⟨k3,y0,y3,l0,l1,l2,l3,l4,l5,l6⟩:=I.tk _ d1;obtain rfl:k=k3:=by omega
  rw [d2]at l3;injection l3 with l3
  subst l3;rw [I.pw]at d3 d5;by_cases hkJ:k=J
  · subst hkJ;obtain ⟨g5,m1,m2⟩:=hru d1;rw [d2]at m1;injection m1 with m1
    subst m1;left;omega
  · by_cases hlt:k<J
    · left
      have:((k:Int)+1)*h.pw<=(J:Int)*h.pw:=qaK (by omega) (by omega)
      rw [qa7,qa5]at this;omega
    · right
      have:((J:Int)+1)*h.pw<=(k:Int)*h.pw:=qaK (by omega) (by omega)
      rw [qa7,qa5]at this;omega
 have hcopy:∀ q,zbp x q->evWd (zbA x a) q=evWd x q/\q≠a/\q≠T:=fun q hc=>by
  have h1:=hbelow q hc;obtain ⟨k,y0,l1,l2,l3,l4,l5,l6,l7⟩:=I.copy hc;have h2:=I.old_copy ha hc;have hne:q≠a:=by omega
  exact ⟨hout q hne (by omega),hne,by omega⟩
 have hcopyN:∀ q,zbp x q->evN (zbA x a) q=evN x q:=fun q hc=>by unfold evN;rw [(hcopy q hc).1]
 have hqd:∀ q∈x.queue,evWd (zbA x a) q=evWd x q:=fun q h1=>by
  rcases I.qs q h1 with h2 | h2
  · exact hold q h2 (fun e=>hq (by rw [<-e];exact h1))
  · exact (hcopy q h2).1
 have hcc:∀ q,zbp x q->zbp (zbA x a) q:=fun q hc=>by
  have h9:=hcopyN q hc;have h8:=(hcopy q hc).1;have hc2:=hc;obtain ⟨k,y2,d1,d2,d3,d4,d5⟩:=hc;by_cases hkJ:k=J
  · subst hkJ;obtain ⟨g5,m1,m2⟩:=hru d1;rw [d2]at m1;injection m1 with m1
    subst m1;refine ⟨k,g1,by rw [hTk];exact hJt,by rw [hP];exact hg1,by rw [hpw];rw [I.pw]at d3;exact d3,by rw [h8];exact d4,?_⟩
    rw [h9,hpw];rw [I.pw]at d5;omega
  · refine ⟨k,y2,by rw [hTk];exact (htk _).2 (Or.inl d1),by rw [hP,hoth k hkJ];exact d2,by rw [hpw];rw [I.pw]at d3;exact d3,by rw [h8];exact d4,?_⟩
    rw [h9,hpw];rw [I.pw]at d5;exact d5
 have hback:∀ q∈x.queue,zbp (zbA x a) q->zbp x q:=fun q h1 hc=>by
  rcases I.qs q h1 with h2 | h2
  · exfalso
    obtain ⟨k,y2,d1,d2,d3,d4,d5⟩:=hc;obtain ⟨i3,j3,g3,b3⟩:=zai h2;have hb3:=b3.pos;rw [hpw]at d3 d5;have hge:1<=evN (zbA x a) q:=by have:=(zhv d4).1;omega
    rw [hTk]at d1;rw [hP]at d2;rcases (htk _).1 d1 with d1 | d1
    · obtain ⟨k3,y0,y3,l0,l1,l2,l3,l4,l5,l6⟩:=I.tk _ d1;obtain rfl:k=k3:=by omega
      have h6:=zaJ b3 l1 l2;have hul:y2.used<=h.pw:=by
       by_cases hkJ:k=J
       · subst hkJ;rw [hg1]at d2;injection d2 with d2;subst d2;omega
       · rw [hoth k hkJ,l3]at d2;injection d2 with d2;subst d2;exact l6
      omega
    · obtain rfl:k=J:=by omega
      have h6:=zaJ b3 hg0 hk0;rw [hg1]at d2;injection d2 with d2;subst d2
      omega
  · exact h2
 have hTN:evN (zbA x a) T=N:=by unfold evN;rw [hnew];exact hN
 refine ⟨⟨I.ok,I.pw,I.np,I.sp,I.old,?_,?_,fun t h1=>?_,fun k g5 h1 h2=>?_,?_,fun c hc=>?_,fun q h1=>?_,fun q h1 r h2 cq cr hne=>?_,?_⟩,⟨rfl,⟨[T],hQ⟩,hqd⟩⟩
 · rw [hW,zcB kc,znF (by omega) ka kb];exact hwl
 · rw [hP,hplen];exact I.pl
 · rw [hTk]at h1;rw [hP];by_cases hkJ:t=J
   · exact ⟨J,g0,g1,hkJ,hg0,hk0,hg1,hk11,by omega,by omega⟩
   · obtain ⟨k3,y0,y3,l0,l1,l2,l3,l4,l5,l6⟩:=I.tk _ (((htk t).1 h1).resolve_right hkJ);exact ⟨k3,y0,y3,l0,l1,l2,by rw [hoth k3 (by omega)];exact l3,l4,l5,l6⟩
 · rw [hTk]at h2;rw [hP];have hnt:¬(k:Int)∈x.taken:=fun h3=>h2 ((htk _).2 (Or.inl h3))
   have hkJ:k≠J:=fun e=>h2 ((htk _).2 (Or.inr (by rw [e])))
   obtain ⟨y5,l1,l2,l3⟩:=I.pg k g5 h1 hnt;exact ⟨y5,by rw [hoth k hkJ];exact l1,l2,l3⟩
 · rw [hTk,hP];exact htl
 · have hstab:∀ i5 j5 g5,Begins h c i5 j5 g5->zd9 (zbA x a) i5=zd9 x i5:=fun i5 j5 g5 b5=>by
    have hnt:=I.begun b5;have hkJ:i5≠J:=fun e=>by
     subst e;have:=b5.pg
     rw [hg0]at this;injection this with this
     subst this;rcases b5.kd with ⟨k,-⟩ | ⟨k,-⟩ <;> omega
    refine zsX (by rw [hP];exact hoth i5 hkJ) rfl ?_
    rw [hTk,htk];constructor
    · rintro (h | h)
      · exact h
      · omega
    · exact Or.inl
   obtain ⟨i5,j5,g5,b5⟩:=zai hc;by_cases hca:c=a
   · subst hca;right
     refine ⟨by rw [hself];exact znl (by omega) (by omega),fun h1=>?_,?_⟩
     · rw [hQ]at h1;rcases qao.1 h1 with h1 | h1
       · exact hq h1
       · have:=qau.1 h1;omega
     · rw [b5.oi,hstab _ _ _ b5];have:evI x c=i5:=by unfold evI;rw [I.pw,I.np];exact b5.oi
       rw [<-this];exact hpr
   · rw [hold c hc hca];rcases I.un c hc with h1 | ⟨h1,h2,h3⟩
     · exact Or.inl h1
     · refine Or.inr ⟨h1,fun h4=>?_,by rw [b5.oi]at h3 ⊢;rw [hstab _ _ _ b5];exact h3⟩
       rw [hQ]at h4;rcases qao.1 h4 with h4 | h4
       · exact h2 h4
       · have h5:=qau.1 h4;have h6:=zaJ b5 hg0 hk0;have h7:=b5.pos;omega
 · rw [hQ]at h1;rcases qao.1 h1 with h1 | h1
   · rcases I.qs q h1 with h2 | h2
     · exact Or.inl h2
     · exact Or.inr (hcc q h2)
   · have h5:=qau.1 h1;subst h5;refine Or.inr ⟨J,g1,by rw [hTk];exact hJt,by rw [hP];exact hg1,by rw [hpw];omega,by rw [hnew];exact e1,?_⟩
     rw [hTN,hpw];omega
 · rw [hQ]at h1 h2;rcases qao.1 h1 with m1 | m1 <;> rcases qao.1 h2 with m2 | m2
   · have cq2:=hback q m1 cq;have cr2:=hback r m2 cr;rw [hcopyN q cq2,hcopyN r cr2];exact I.dj q m1 r m2 cq2 cr2 hne
   · have h5:=qau.1 m2;have cq2:=hback q m1 cq;rw [h5,hcopyN q cq2,hTN];exact hbelow q cq2
   · have h5:=qau.1 m1;have cr2:=hback r m2 cr;rw [h5,hcopyN r cr2,hTN];exact (hbelow r cr2).symm
   · exact absurd ((qau.1 m1).trans (qau.1 m2).symm) hne
 · have h1:((zaf h).filter (zcE (zbA x a))).length+1<=((zaf h).filter (zcE x)).length:=by
    refine zgF (c:=a) (fun c hc hu=>?_) ha ?_ ?_
    · unfold zcE at hu ⊢
      by_cases hca:c=a
      · subst hca;rw [hself,znl (by omega) (by omega)]at hu
        simp at hu
      · rw [hold c hc hca]at hu;simp only [qae,qaa]at hu ⊢;exact ⟨fun h2=>hu.1 (by rw [hQ];exact qa6 _ h2),hu.2⟩
    · unfold zcE;simp [hq,ht]
    · unfold zcE;rw [hself,znl (by omega) (by omega)];simp
   have h2:(zbA x a).queue.length=x.queue.length+1:=by rw [hQ];simp
   have:=I.cnt
   omega
theorem Inv.forward{h:Hp}{x:Wk}(I:Inv h x){a:Int}(he:evE x a=0):Inv h (evW x a)/\Later x (evW x a):=by
 unfold evE at he;unfold evW;by_cases h0:a=0\/a∈x.queue
 · have hc:evC x a=0:=by unfold evC;rw [if_pos h0]
   rw [hc];exact ⟨I,Later.refl x⟩
 have hq:¬a∈x.queue:=fun c=>h0 (Or.inr c)
 by_cases ho:¬a∈x.old
 · have hc:evC x a=1:=by unfold evC;rw [if_neg h0,if_pos ho]
   rw [hc]at he;exact absurd he (by decide)
 replace ho:a∈x.old:=Classical.not_not.1 ho
 have ho2:a∈zaf h:=by rw [<-I.old];exact ho
 by_cases ht:okT (evWd x a).toNat=true
 · have hc:evC x a=2:=by unfold evC;rw [if_neg h0,if_neg (by simpa using ho),if_pos ht]
   rw [hc];exact ⟨I,Later.refl x⟩
 replace ht:okT (evWd x a).toNat=false:=by simpa using ht
 by_cases h3:¬ofE x.h.pw x.h.np a=0\/(x.h.pages.length:Int)<=evI x a
 · have hc:evC x a=3:=by unfold evC;rw [if_neg h0,if_neg (by simpa using ho),if_neg (by simp [ht]),if_pos h3]
   rw [hc]at he;exact absurd he (by decide)
 cases hpr:zd9 x (evI x a) with
 | true=>
  have hc:evC x a=4:=by unfold evC;rw [if_neg h0,if_neg (by simpa using ho),if_neg (by simp [ht]),if_neg h3,if_pos hpr]
  rw [hc];exact I.keep ho2 hq ht
 | false=>
  cases hbig:zhw x a with
  | true=>
   have hc:evC x a=5:=by unfold evC;rw [if_neg h0,if_neg (by simpa using ho),if_neg (by simp [ht]),if_neg h3,if_neg (by simp [hpr]),if_pos hbig]
   rw [hc];obtain ⟨i,j,g,b⟩:=zai ho2;have hoi:evI x a=i:=by unfold evI;rw [I.pw,I.np];exact b.oi
   obtain ⟨y,f1,f2,f3⟩:=I.pg i g b.pg (I.begun b);have hk:y.kind=2:=by
    unfold zhw at hbig;rw [hoi,qad,zar f1]at hbig;exact qar hbig
   rw [hoi,qad];obtain ⟨I2,L2,e1,e2⟩:=I.large f1 hk;obtain ⟨I3,L3⟩:=I2.keep ho2 (by rw [e2];exact hq) (by rw [e1];exact ht)
   exact ⟨I3,L2.trans L3⟩
  | false=>
   cases hpp:plB x (evN x a) with
   | true=>
    have hc:evC x a=7:=by unfold evC;rw [if_neg h0,if_neg (by simpa using ho),if_neg (by simp [ht]),if_neg h3,if_neg (by simp [hpr]),if_neg (by simp [hbig]),if_pos hpp]
    rw [hc];exact I.copied ho2 hq ht hpr hbig hpp
   | false=>
    have hc:evC x a=6:=by unfold evC;rw [if_neg h0,if_neg (by simpa using ho),if_neg (by simp [ht]),if_neg h3,if_neg (by simp [hpr]),if_neg (by simp [hbig]),if_neg (by simp [hpp])]
    rw [hc]at he;exact absurd he (by decide)
def zaK:Wk->List Int->List Int->Wk×List Int×Int
 | x,acc,[]=>(x,acc,0)
 | x,acc,r::rs=>if evE x r=0 then zaK (evW x r) (acc++[evA x r]) rs else (Wk.zero,[],evE x r)
def zom:Wk->List Int->Prop
 | _,[]=>True
 | x,r::rs=>FwOK x/\(0<=r/\r<18446744073709551616)/\(evE x r=0->zom (evW x r) rs)
def zbV(h:Hp):Wk:=⟨{ h with pages:=h.pages.map fun g=>if g.kind=1/\0<g.pins then ⟨g.kind,1-h.space,g.used,g.pins⟩ else g },zaf h,[],[],0,0,0,0,0,0,0⟩
def zfD(x:Wk)(a:Int):Bool:=zd9 x (ofI x.h.pw x.h.np a) && !decide (a∈x.queue)
def zfC(x:Wk)(a:Int):List Int:=encV 0 (evH x a).n 0::List.replicate (evH x a).n.toNat 0
def zau(x:Wk)(a:Int):Wk:=if zfD x a then { x with h:={ x.h with words:=zaz x.h.words a (zfC x a) },r2:=wrap64 (x.r2+1) } else x
def zaH(x:Wk):Wk:=x.old.foldl zau x
theorem zpB{x y:Wk}(L:Later x y){q:Int}(hq:q∈x.queue):evH y q=evH x q:=by
 unfold evH;rw [L.hd q hq]
theorem st_ok{h:Hp}{A:Int}:∀ (l:List Int) (x:Wk),Inv h x->A∈x.queue->(∀ i∈l,0<=i/\i<(evH x A).n)->StOK x A l/\((stGo x A l).2=0->Inv h (stGo x A l).1/\Later x (stGo x A l).1)
 | [],x,I,hA,_=>⟨trivial,fun _=>⟨I,Later.refl x⟩⟩
 | i::r,x,I,hA,hl=>by
  obtain ⟨h0,h1⟩:=hl i (qaX ..);have key:evE x (zao x.h.words (A+1+i))=0->Inv h (zcr x (A+1+i))/\Later x (zcr x (A+1+i)):=fun he=>by
   obtain ⟨I2,L2⟩:=I.forward he;have hA2:=L2.mem hA;obtain ⟨k1,k2,k3⟩:=I2.inside hA2 h0 (by rw [zpB L2 hA];exact h1)
   obtain ⟨I3,L3⟩:=I2.write (v:=evA x (zao x.h.words (A+1+i))) k1 k2 k3
   exact ⟨I3,L2.trans L3⟩
  have hrec:∀ he:evE x (zao x.h.words (A+1+i))=0,StOK (zcr x (A+1+i)) A r/\((stGo (zcr x (A+1+i)) A r).2=0->Inv h (stGo (zcr x (A+1+i)) A r).1/\Later (zcr x (A+1+i)) (stGo (zcr x (A+1+i)) A r).1):=fun he=>by
   obtain ⟨I3,L3⟩:=key he;exact st_ok r _ I3 (L3.mem hA) (fun j hj=>by rw [zpB L3 hA];exact hl j (qaD _ hj))
  refine ⟨⟨I.fwok,fun he=>(hrec he).1⟩,fun hz=>?_⟩
  rw [stGo]at hz ⊢
  by_cases he:evE x (zao x.h.words (A+1+i))=0
  · rw [if_pos he]at hz ⊢
    obtain ⟨I4,L4⟩:=(hrec he).2 hz;exact ⟨I4,(key he).2.trans L4⟩
  · rw [if_neg he]at hz;exact absurd hz he
theorem stL_in{x:Wk}{A i:Int}(hi:i∈stL x A):0<=i/\i<(evH x A).n:=by
 have h:=zku hi;unfold ptrB at h;simp only [qae,qaa]at h;exact ⟨h.1.1.2,h.1.2⟩
theorem Inv.queue_bd{h:Hp}{x:Wk}(I:Inv h x){A:Int}(hA:A∈x.queue):4096<=A/\A<=9000:=by
 rcases I.qs A hA with c | c
 · have:=zn2 (zco c).1;omega
 · obtain ⟨k,g0,f1,f2,f3,f4,f5,f6,f7⟩:=I.copy c;have h1:=I.conf;have h2:=za1 (p:=(k:Int)) (zan I.ok).1 (by omega) f3
   omega
theorem Inv.reports{h:Hp}{x:Wk}(I:Inv h x)(s a b c d e f:Int):Inv h { x with sc:=s,r0:=a,r1:=b,r2:=c,r3:=d,r4:=e,r5:=f } :=
 ⟨I.ok,I.pw,I.np,I.sp,I.old,I.wl,I.pl,I.tk,I.pg,I.tl,I.un,I.qs,I.dj,I.cnt⟩
theorem zvx{h:Hp}:∀ (f:Nat) (x:Wk) (k:Nat),Inv h x->x.sc=k->k<=x.queue.length->(zaf h).length+1<=k+f->zvF f x/\((allV f x).2=0->Inv h (allV f x).1)
 | 0,x,k,I,hk,hq,hf=>by have:=I.qlen;omega
 | f+1,x,k,I,hk,hq,hf=>by
  have hql:=I.qlen;cases hA:x.queue[k]? with
  | none=>
   refine ⟨⟨k,hk,by omega,Or.inl hA⟩,fun _=>?_⟩
   rw [zn4 hk hA];exact I
  | some A=>
   have hAm:=qav hA;have hkl:=(qah.1 hA).1;have hbd:=I.queue_bd hAm;obtain ⟨s1,s2⟩:=st_ok (stL x A) x I hAm (fun i hi=>stL_in hi)
   have key:stE x A=0->Inv h (stW x A)/\(stW x A).sc=((k+1:Nat):Int)/\k+1<=(stW x A).queue.length:=fun he=>by
    obtain ⟨I2,L2⟩:=s2 he;refine ⟨I2.reports _ _ _ _ _ _ _,?_,?_⟩
    · show wrap64 ((stGo x A (stL x A)).1.sc+1)=_
      rw [L2.sc,hk];unfold wrap64;omega
    · show k+1<=(stGo x A (stL x A)).1.queue.length
      obtain ⟨l,e⟩:=L2.qu;rw [e,qaz];omega
   have hrec:=fun he:stE x A=0=>zvx f (stW x A) (k+1) (key he).1 (key he).2.1 (key he).2.2 (by omega)
   refine ⟨⟨k,hk,by omega,Or.inr ⟨A,hA,by omega,by omega,I.fwok.wl,s1,fun he=>⟨(key he).2.1,(hrec he).1⟩⟩⟩,fun hz=>?_⟩
   rw [zri hk hA]at hz ⊢
   by_cases he:stE x A=0
   · rw [if_pos he]at hz ⊢;exact (hrec he).2 hz
   · rw [if_neg he]at hz;exact absurd hz he
theorem znb{h:Hp}:∀ (rs:List Int) (x:Wk) (acc:List Int),Inv h x->(∀ r∈rs,0<=r/\r<18446744073709551616)->zom x rs/\((zaK x acc rs).2.2=0->Inv h (zaK x acc rs).1/\Later x (zaK x acc rs).1/\(zaK x acc rs).2.1.length=acc.length+rs.length)
 | [],x,acc,I,_=>⟨trivial,fun _=>⟨I,Later.refl x,rfl⟩⟩
 | r::rs,x,acc,I,hl=>by
  have hrec:∀ he:evE x r=0,_:=fun he=>znb rs (evW x r) (acc++[evA x r]) (I.forward he).1 (fun q hq=>hl q (qaD _ hq))
  refine ⟨⟨I.fwok,hl r (qaX ..),fun he=>(hrec he).1⟩,fun hz=>?_⟩
  rw [zaK]at hz ⊢
  by_cases he:evE x r=0
  · rw [if_pos he]at hz ⊢
    obtain ⟨I2,L2,e2⟩:=(hrec he).2 hz;refine ⟨I2,(I.forward he).2.trans L2,?_⟩;rw [e2];simp only [qaz,qaO,qb3];omega
  · rw [if_neg he]at hz;exact absurd hz he
theorem zhC{h:Hp}(h1:okH h=true):Inv h (zbV h):=by
 refine ⟨h1,rfl,rfl,rfl,rfl,rfl,by show (List.map _ _).length=_;rw [qak],fun t ht=>(by cases ht),fun k g0 hg hn=>?_,qbb _,fun a ha=>Or.inl rfl,fun q hq=>(by cases hq),fun q hq=>(by cases hq),?_⟩
 · refine ⟨if g0.kind=1/\0<g0.pins then ⟨g0.kind,1-h.space,g0.used,g0.pins⟩ else g0,?_,?_,?_⟩
   · show (List.map _ _)[k]?=_;rw [qbr,hg];rfl
   · split <;> rfl
   · split <;> rfl
 · show 0+_<=_
   have:=qbM (zcE (zbV h)) (zaf h)
   omega
theorem zjj(x:Wk)(a:Int):(zau x a).h.pw=x.h.pw/\(zau x a).h.np=x.h.np/\(zau x a).h.pages=x.h.pages/\(zau x a).h.space=x.h.space/\(zau x a).taken=x.taken/\(zau x a).queue=x.queue/\(zau x a).old=x.old/\(zau x a).h.bump=x.h.bump:=by
 unfold zau;split <;> exact ⟨rfl,rfl,rfl,rfl,rfl,rfl,rfl,rfl⟩
theorem zht(x:Wk)(a b:Int):zfD (zau x a) b=zfD x b:=by
 obtain ⟨e1,e2,e3,e4,e5,e6,-,-⟩:=zjj x a;unfold zfD zd9;rw [e1,e2,e3,e4,e5,e6]
theorem znR{h:Hp}:∀ (l:List Int) (x:Wk),l.Pairwise (fun a b=>a+osz h a<=b)->(∀ a∈l,a∈zaf h)->x.h.words.length=h.words.length->(∀ a∈l,zfD x a=true->evWd x a=zao h.words a)->(l.foldl zau x).h.words.length=h.words.length
 | [],x,_,_,e,_=>e
 | a::l,x,hp,hm,e,hev=>by
  obtain ⟨p1,p2⟩:=List.pairwise_cons.1 hp;rw [qbT];by_cases hb:zfD x a=true
  · have h1:=hev a (qaX ..) hb;have ha:=hm a (qaX ..);obtain ⟨e1,e2,e3,-⟩:=zdZ ha h1;obtain ⟨i,j,g,b⟩:=zai ha;have hpos:=b.pos;have hwl:=b.wl;have hln:((zfC x a).length:Int)=osz h a:=by unfold zfC;rw [qaO,qa2];omega
    have hok:okA x.h.words.length a (zfC x a).length=true:=zaM.2 (by omega)
    have hW:(zau x a).h.words=zaz x.h.words a (zfC x a):=by unfold zau;rw [if_pos hb]
    refine znR l _ p2 (fun c hc=>hm c (qaD _ hc)) (by rw [hW,zcB hok];exact e) (fun c hc hf=>?_)
    rw [zht]at hf;have h2:=hev c (qaD _ hc) hf;have h3:=p1 c hc;rw [<-h2];unfold evWd;rw [hW,za5 hok (by omega)]
  · have hW:zau x a=x:=by unfold zau;rw [if_neg hb]
    rw [hW];exact znR l x p2 (fun c hc=>hm c (qaD _ hc)) e (fun c hc hf=>hev c (qaD _ hc) hf)
theorem Inv.fill{h:Hp}{x:Wk}(I:Inv h x):(zaH x).h.words.length=h.words.length:=by
 unfold zaH;rw [I.old];refine znR _ x (zdc h) (fun a ha=>ha) I.wl (fun a ha hf=>?_)
 unfold zfD at hf;simp only [qae,qap,qaf]at hf;rcases I.un a ha with c | ⟨-,-,c3⟩
 · exact c
 · rw [I.pw,I.np]at hf;rw [c3]at hf;exact absurd hf.1 (by decide)
structure Wd where
 h:Hp
 st:List Int
 wk:List Int
def bgB(h:Hp)(k:Nat):Bool:=decide ((h.pages.getD k Pg.zero).kind=1)&&decide (0<(h.pages.getD k Pg.zero).pins)
def bgPs(h:Hp):Nat->List Pg
 | 0=>h.pages
 | k+1=>if bgB h k then (bgPs h k).set k ⟨(h.pages.getD k Pg.zero).kind,1-h.space,(h.pages.getD k Pg.zero).used,(h.pages.getD k Pg.zero).pins⟩ else bgPs h k
theorem zka(h:Hp):∀ k,(bgPs h k).length=h.pages.length
 | 0=>rfl
 | k+1=>by rw [bgPs];split <;> simp [zka h k]
theorem zre(h:Hp):∀ (k j:Nat) (g:Pg),h.pages[j]?=some g->(bgPs h k)[j]?=some (if j<k/\g.kind=1/\0<g.pins then ⟨g.kind,1-h.space,g.used,g.pins⟩ else g)
 | 0,j,g,hg=>by rw [if_neg (by omega)];exact hg
 | k+1,j,g,hg=>by
  have ih:=zre h k j g hg;have hj:=(qah.1 hg).1;rw [bgPs];by_cases hb:bgB h k=true
  · rw [if_pos hb,qaP,zka];unfold bgB at hb;simp only [qae,qaa]at hb;by_cases e:k=j
    · subst e;rw [zar hg]at hb ⊢
      rw [if_pos rfl,if_pos hj,if_pos ⟨by omega,hb.1,hb.2⟩]
    · rw [if_neg e,ih];by_cases c:j<k/\g.kind=1/\0<g.pins
      · rw [if_pos c,if_pos ⟨by omega,c.2⟩]
      · rw [if_neg c,if_neg (fun c2=>c ⟨by omega,c2.2⟩)]
  · rw [if_neg hb,ih];by_cases c:j<k/\g.kind=1/\0<g.pins
    · rw [if_pos c,if_pos ⟨by omega,c.2⟩]
    · rw [if_neg c,if_neg];rintro ⟨c1,c2⟩;by_cases e:j=k
      · subst e;apply hb
        unfold bgB;rw [zar hg];simp [c2]
      · exact c ⟨by omega,c2⟩
theorem zwJ(h:Hp):bgPs h h.pages.length=(zbV h).h.pages:=by
 apply qbn
 intro j;show _=(List.map _ h.pages)[j]?
 rw [qbr];cases hg:h.pages[j]? with
 | none=>
  have:(bgPs h h.pages.length)[j]?=none:=by
   rw [qcm,zka];exact qcm.1 hg
  rw [this];rfl
 | some g=>
  rw [zre h _ j g hg];have hj:=(qah.1 hg).1;simp only [qbH];by_cases c:g.kind=1/\0<g.pins
  · rw [if_pos ⟨hj,c⟩,if_pos c]
  · rw [if_neg (fun c2=>c c2.2),if_neg c]
def zk7(x:Wk)(k:Nat):Wk:=(x.old.take k).foldl zau x
theorem zq7{x:Wk}{k:Nat}{a:Int}(h:x.old[k]?=some a):zk7 x (k+1)=zau (zk7 x k) a:=by
 unfold zk7;rw [zbt h,List.foldl_append];rfl
theorem zeq:∀ (l:List Int) (x:Wk),(l.foldl zau x).h.pw=x.h.pw/\(l.foldl zau x).h.np=x.h.np/\(l.foldl zau x).h.pages=x.h.pages/\(l.foldl zau x).h.space=x.h.space/\(l.foldl zau x).taken=x.taken/\(l.foldl zau x).queue=x.queue/\(l.foldl zau x).old=x.old/\(l.foldl zau x).h.bump=x.h.bump
 | [],x=>⟨rfl,rfl,rfl,rfl,rfl,rfl,rfl,rfl⟩
 | a::l,x=>by
  obtain ⟨e1,e2,e3,e4,e5,e6,e7,e8⟩:=zeq l (zau x a);have h:(zau x a).h.pw=x.h.pw/\(zau x a).h.np=x.h.np/\(zau x a).h.pages=x.h.pages/\(zau x a).h.space=x.h.space/\(zau x a).taken=x.taken/\(zau x a).queue=x.queue/\(zau x a).old=x.old/\(zau x a).h.bump=x.h.bump:=by
   unfold zau;split <;> exact ⟨rfl,rfl,rfl,rfl,rfl,rfl,rfl,rfl⟩
  obtain ⟨f1,f2,f3,f4,f5,f6,f7,f8⟩:=h;exact ⟨e1.trans f1,e2.trans f2,e3.trans f3,e4.trans f4,e5.trans f5,e6.trans f6,e7.trans f7,e8.trans f8⟩
theorem zt2(xs:List Int)(a:Int)(l:List Int):(zaz xs a l).length<=xs.length:=by
 unfold zaz;split
 · rename_i hk;have h1:=qar hk;rw [zcX (by omega)];exact qan _
 · exact qbb _
theorem zvl(n:Int):0<=encV 0 n 0/\encV 0 n 0<18446744073709551616:=by
 unfold encV;split
 · rename_i h;have:=zkc h (qcc 0)
   omega
 · omega
def frB(x:Wk)(k:Nat):Bool:=!decide ((x.h.pages.getD k Pg.zero).kind=0)&&decide ((x.h.pages.getD k Pg.zero).space=x.h.space)
def frPs(x:Wk):Nat->List Pg
 | 0=>x.h.pages
 | k+1=>if frB x k then (frPs x k).set k Pg.zero else frPs x k
def frWs(x:Wk):Nat->List Int
 | 0=>x.h.words
 | k+1=>if frB x k then splice (frWs x k) (k*x.h.pw.toNat) (List.replicate x.h.pw.toNat 0) else frWs x k
def frR(x:Wk):Nat->Int
 | 0=>x.r3
 | k+1=>if frB x k then wrap64 (frR x k+1) else frR x k
def ztk(x:Wk):Wk:={ x with h:={ x.h with pages:=frPs x x.h.pages.length,words:=frWs x x.h.pages.length },r3:=frR x x.h.pages.length }
theorem zhq(x:Wk):∀ k,(frPs x k).length=x.h.pages.length
 | 0=>rfl
 | k+1=>by rw [frPs];split <;> simp [zhq x k]
theorem zq5(x:Wk):∀ (k j:Nat),k<=j->(frPs x k)[j]?=x.h.pages[j]?
 | 0,_,_=>rfl
 | k+1,j,h=>by
  rw [frPs];split
  · rw [qbu (by omega),zq5 x k j (by omega)]
  · exact zq5 x k j (by omega)
theorem zie{k m n:Nat}{pw:Int}(h0:0<=pw)(hk:k<m)(hn:(n:Int)=m*pw):k*pw.toNat+pw.toNat<=n:=by
 obtain ⟨q,rfl⟩:∃ q:Nat,pw=q:=⟨pw.toNat,by omega⟩
 rw [qad];have h1:(k+1)*q<=m*q:=qaN _ (by omega)
 rw [qaI,qa3]at h1;have h2:((m*q:Nat):Int)=n:=by rw [qcg];exact hn.symm
 omega
theorem zhp(x:Wk)(h0:0<=x.h.pw)(hw:(x.h.words.length:Int)=x.h.pages.length*x.h.pw):∀ k,k<=x.h.pages.length->(frWs x k).length=x.h.words.length
 | 0,_=>rfl
 | k+1,hk=>by
  have ih:=zhp x h0 hw k (by omega)
  rw [frWs];split
  · rw [zcX (by rw [qa2,ih];exact zie h0 (by omega) hw)];exact ih
  · exact ih
theorem zvb(x:Wk)(hw:WB x.h.words):∀ k,WB (frWs x k)
 | 0=>hw
 | k+1=>by
  have ih:=zvb x hw k;rw [frWs];split
  · intro v hv;unfold splice at hv;rcases qao.1 hv with h | h
    · exact ih v (qb1 h)
    · rcases qao.1 h with h | h
      · have:=(List.mem_replicate.1 h).2;omega
      · exact ih v (qb8 h)
  · exact ih
def zhE(x:Wk)(a:Int):Int:=if a∈x.queue then a else tgtV (evWd x a).toNat
def zf8(x:Wk)(a:Int):Int:=if a=0 then 0 else zhE x a
def zeu(x:Wk)(r a:Int):Int:=if a=0 then r else if zhE x a=0 then wrap64 (r+1) else r
def ziH(h:Hp)(st:List Int):Wk×List Int×Int:=zaK (zbV h) [] st
def zhB(h:Hp)(st:List Int):Wk×Int:=allV ((zaf h).length+1) (ziH h st).1
def zbL(h:Hp)(st wk:List Int):Wk:={ (zhB h st).1 with r4:=wk.foldl (zeu (zhB h st).1) (zhB h st).1.r4 }
def zrb(h:Hp)(st wk:List Int):Wk:=ztk (zaH (zbL h st wk))
def zet(h:Hp)(st wk:List Int):Int:=if okH h then (if zib h st&&zib h wk then (if (ziH h st).2.2=0 then (zhB h st).2 else (ziH h st).2.2) else 19) else 1
def ziI(h:Hp)(st wk:List Int):Hp:={ (zrb h st wk).h with space:=1-(zrb h st wk).h.space,bump:=((zrb h st wk).taken.getLast?).getD (-1) }
def zli(h:Hp)(st:List Int):List Int:=(ziH h st).2.1
def zpH(h:Hp)(st wk:List Int):List Int:=wk.map (zf8 (zhB h st).1)
def putV(x:Wd)(k n m:Int):Wd:=⟨zdu x.h k n m,x.st++[zfI x.h k n m],x.wk⟩
inductive MStep:Wd->Wd->Prop
 | none (x:Wd):MStep x x
 | put (x:Wd) (k n m:Int):1<=k->k<=3->0<=n->n<=100->0<=m->m<4096->zcz x.h k n m=0->MStep x (putV x k n m)
 | link (x:Wd) (a i b:Int):a∈0::(x.st++x.wk)->getE x.h a=0->0<=i->i<(getH x.h a).n->0<=b->b<18446744073709551616->(ptrB (getH x.h a).k (getH x.h a).n (getH x.h a).m i=true->b∈0::(x.st++x.wk))->MStep x { x with h:=setV x.h a i b }
 | pin (x:Wd) (a:Int) (i:Nat) (g:Pg) (p:Int):a∈0::(x.st++x.wk)->ofE x.h.pw x.h.np a=0->ofI x.h.pw x.h.np a=i->x.h.pages[i]?=some g->((0<g.pins/\p=g.pins-1)\/(p=g.pins+1/\(0<g.pins\/g.kind=2\/(zaQ x.h.pages:Int)<x.h.np / 4)))->MStep x { x with h:={ x.h with pages:=x.h.pages.set i ⟨g.kind,g.space,g.used,p⟩ } }
 | drop (x:Wd) (i:Nat) (r:Int) (b:Bool):x.st[i]?=some r->MStep x ⟨x.h,x.st.take i++x.st.drop (i+1),if b then x.wk++[r] else x.wk⟩
 | collect (x:Wd):zet x.h x.st x.wk=0->MStep x ⟨ziI x.h x.st x.wk,zli x.h x.st,zpH x.h x.st x.wk⟩
 | dup (x:Wd) (a:Int):a∈0::(x.st++x.wk)->MStep x ⟨x.h,x.st++[a],x.wk⟩
inductive Made:Nat->Wd->Prop
 | empty (pw np:Int):(pw=16\/pw=20\/pw=32)->(np=8\/np=12\/np=16\/np=20\/np=24)->Made 0 ⟨zl2 pw np,[],[]⟩
 | step (n:Nat) (x y:Wd):Made n x->MStep x y->Made (n+1) y
theorem mem_u64{st wk:List Int}(h1:WB st)(h2:WB wk){a:Int}(h:a∈0::(st++wk)):0<=a/\a<18446744073709551616:=by
 simp only [qas,qao]at h;rcases h with rfl | h | h
 · exact ⟨by omega,by omega⟩
 · exact h1 _ h
 · exact h2 _ h
theorem zr9{pw np a:Int}(h:ofE pw np a=0):confB pw np=true/\0<=ofI pw np a/\ofI pw np a<np:=by
 have h1:confB pw np=true:=by
  cases hv:confB pw np with
  | false=>have:=(zwg (a:=a) hv).2.2;omega
  | true=>rfl
 have h2:inAr pw np a=true:=by
  cases hi:inAr pw np a with
  | false=>have:=(ze6 h1 hi).2.2;omega
  | true=>rfl
 have h3:=zaj h1;refine ⟨h1,zs3 h,?_⟩;rw [(zg5 h1 h2).1];unfold inAr at h2;have h4:=qar h2;exact qcs (by omega) (by omega)
structure Lens (n:Nat) (x:Wd):Prop where
 conf:confB x.h.pw x.h.np=true
 words:(x.h.words.length:Int)=x.h.np*x.h.pw
 pages:(x.h.pages.length:Int)=x.h.np
 st:WB x.st
 wk:WB x.wk
 stn:x.st.length<=n
 wkn:x.wk.length<=n
 pins:∀ g∈x.h.pages,0<=g.pins/\g.pins<=n
theorem zmK{h:Hp}{a i:Int}(hg:getE h a=0)(h0:0<=i)(h1:i<(getH h a).n):zjk h a i=0/\okA h.words.length (a+1+i) 1=true:=by
 obtain ⟨g1,g2,g3,-,-,g6,-,-,-,-⟩:=znL hg;obtain ⟨k,j,g,b⟩:=zb8 g2;have h2:=b.wl;have h3:osz h a=(atH h a).n+1:=rfl
 rw [g3]at h1;have hk:okA h.words.length (a+1+i) 1=true:=zaM.2 ⟨by omega,by omega⟩
 refine ⟨?_,hk⟩;unfold zjk;rw [if_pos hg,if_neg (by rw [g3];omega)]
 unfold zkT;rw [if_pos hk]
theorem Lens.up{n:Nat}{x:Wd}(h:Lens n x):Lens (n+1) x :=
 ⟨h.conf,h.words,h.pages,h.st,h.wk,by have:=h.stn;omega,by have:=h.wkn;omega,fun g hg=>by have:=h.pins g hg;omega⟩
theorem zte{pw np:Int}(h1:pw=16\/pw=20\/pw=32)(h2:np=8\/np=12\/np=16\/np=20\/np=24):Lens 0 ⟨zl2 pw np,[],[]⟩:=by
 have hc:confB pw np=true:=zvq (by omega)
 have hp:=conf_prod hc;rw [(znD hc).1];refine ⟨hc,?_,?_,WB.nil,WB.nil,qan _,qan _,fun g hg=>?_⟩
 · show ((List.replicate (np*pw).toNat (0:Int)).length:Int)=np*pw
   rw [qa2];omega
 · show ((List.replicate np.toNat Pg.zero).length:Int)=np
   rw [qa2];omega
 · obtain ⟨-,rfl⟩:=List.mem_replicate.1 hg;exact ⟨by decide,by decide⟩
theorem zuY{n:Nat}{x:Wd}(h:Lens n x){a i b:Int}(hg:getE x.h a=0)(h0:0<=i)(h1:i<(getH x.h a).n)(b0:0<=b)(b1:b<18446744073709551616):Lens (n+1) { x with h:=setV x.h a i b }:=by
 obtain ⟨h2,h3⟩:=zmK hg h0 h1;have e:setV x.h a i b={ x.h with words:=zaz x.h.words (a+1+i) [b] }:=by unfold setV;exact if_pos h2
 rw [e];have hl:(zaz x.h.words (a+1+i) [b]).length=x.h.words.length:=zcB (l:=[b]) h3
 refine ⟨h.conf,?_,h.pages,h.st,h.wk,by have:=h.stn;show x.st.length<=_;omega,by have:=h.wkn;show x.wk.length<=_;omega,fun g hg=>by have:=h.pins g hg;omega⟩
 show ((zaz x.h.words (a+1+i) [b]).length:Int)=x.h.np*x.h.pw
 rw [hl];exact h.words
theorem zwn{n:Nat}{x:Wd}(h:Lens n x){i:Nat}{g:Pg}{p:Int}(hg:x.h.pages[i]?=some g)(hp:(0<g.pins/\p=g.pins-1)\/p=g.pins+1):Lens (n+1) { x with h:={ x.h with pages:=x.h.pages.set i ⟨g.kind,g.space,g.used,p⟩ } }:=by
 have h1:=h.pins g (qav hg);refine ⟨h.conf,h.words,?_,h.st,h.wk,by have:=h.stn;show x.st.length<=_;omega,by have:=h.wkn;show x.wk.length<=_;omega,fun f hf=>?_⟩
 · show ((x.h.pages.set i _).length:Int)=x.h.np
   rw [List.length_set];exact h.pages
 · rcases List.mem_or_eq_of_mem_set hf with h2 | rfl
   · have:=h.pins f h2;omega
   · show 0<=p/\p<=((n+1:Nat):Int);omega
theorem zuZ{n:Nat}{x:Wd}(h:Lens n x){i:Nat}{r:Int}(b:Bool)(hr:x.st[i]?=some r):Lens (n+1) ⟨x.h,x.st.take i++x.st.drop (i+1),if b then x.wk++[r] else x.wk⟩:=by
 have hrb:=h.st r (qav hr);refine ⟨h.conf,h.words,h.pages,fun y hy=>?_,fun y hy=>?_,?_,?_,fun g hg=>by have:=h.pins g hg;omega⟩
 · rcases qao.1 hy with h2 | h2
   · exact h.st y (qb1 h2)
   · exact h.st y (qb8 h2)
 · cases b with
   | false=>exact h.wk y hy
   | true=>
    rcases qao.1 hy with h2 | h2
    · exact h.wk y h2
    · rw [qau.1 h2];exact hrb
 · have:=h.stn
   show (x.st.take i++x.st.drop (i+1)).length<=n+1
   rw [qaz,qax,qaM];omega
 · have:=h.wkn
   cases b with
   | false=>show x.wk.length<=_;omega
   | true=>show (x.wk++[r]).length<=_;rw [qaz];simp;omega
theorem zwo{n:Nat}{x:Wd}(h:Lens n x){a:Int}(ha:a∈0::(x.st++x.wk)):Lens (n+1) ⟨x.h,x.st++[a],x.wk⟩:=by
 have hab:=mem_u64 h.st h.wk ha;refine ⟨h.conf,h.words,h.pages,fun y hy=>?_,h.wk,?_,by have:=h.wkn;show x.wk.length<=_;omega,fun g hg=>by have:=h.pins g hg;omega⟩
 · rcases qao.1 hy with h2 | h2
   · exact h.st y h2
   · rw [qau.1 h2];exact hab
 · have:=h.stn
   show (x.st++[a]).length<=_
   rw [qaz];simp;omega
def zsD:Prop:=∀ (n:Nat) (x:Wd) (k l m:Int),n<=400->Made n x->Lens n x->1<=k->k<=3->0<=l->l<=100->0<=m->m<4096->zcz x.h k l m=0->Lens (n+1) (putV x k l m)
def zjv:Prop:=∀ (n:Nat) (x:Wd),n<=400->Made n x->Lens n x->zet x.h x.st x.wk=0->Lens (n+1) ⟨ziI x.h x.st x.wk,zli x.h x.st,zpH x.h x.st x.wk⟩
theorem zwp(hP:zsD)(hC:zjv):∀ n x,Made n x->n<=400->Lens n x:=by
 intro n x hm;induction hm with
 | empty pw np h1 h2=>exact fun _=>zte h1 h2
 | step n x y hm hs ih=>
  intro hn;have h:=ih (by omega)
  cases hs with
  | none=>exact h.up
  | put k l m h1 h2 h3 h4 h5 h6 h7=>exact hP n x k l m (by omega) hm h h1 h2 h3 h4 h5 h6 h7
  | link a i b h1 h2 h3 h4 h5 h6 h7=>exact zuY h h2 h3 h4 h5 h6
  | pin a i g p h1 h2 h3 h4 h5=>exact zwn h h4 (by rcases h5 with h5 | h5;exact Or.inl h5;exact Or.inr h5.1)
  | drop i r b h1=>exact zuZ h b h1
  | collect h1=>exact hC n x (by omega) hm h h1
  | dup a h1=>exact zwo h h1
def PinL(B:Int)(ps:List Pg):Prop:=∀ g∈ps,0<=g.pins/\g.pins<=B
theorem PinL.nil(B:Int):PinL B []:=fun g h=>by cases h
theorem PinL.set{B:Int}{ps:List Pg}(h:PinL B ps){g:Pg}(hg:0<=g.pins/\g.pins<=B)(i:Nat):PinL B (ps.set i g):=fun f hf=>by
 rcases List.mem_or_eq_of_mem_set hf with h2 | rfl
 · exact h f h2
 · exact hg
theorem PinL.getD{B:Int}{ps:List Pg}(h:PinL B ps)(hB:0<=B)(i:Nat):0<=(ps.getD i Pg.zero).pins/\(ps.getD i Pg.zero).pins<=B:=by
 rw [qaA];cases e:ps[i]? with
 | none=>exact ⟨qcc _,hB⟩
 | some g=>exact h g (qav e)
theorem PinL.use{B:Int}{ps:List Pg}(h:PinL B ps)(hB:0<=B)(j:Nat)(n:Int):PinL B (zf4 ps j n) :=
 h.set (g:=⟨(ps.getD j Pg.zero).kind,(ps.getD j Pg.zero).space,(ps.getD j Pg.zero).used+n,(ps.getD j Pg.zero).pins⟩) (h.getD hB j) j
theorem PinL.puts{B:Int}{b:Pg}(hb:0<=b.pins/\b.pins<=B)(k:Nat)(ps:List Pg)(i:Nat)(h:PinL B ps):PinL B (put ps i k b):=fun g hg=>by
 unfold put at hg;rcases qao.1 hg with h1 | h1
 · rcases qao.1 h1 with h2 | h2
   · exact h g (qb1 h2)
   · obtain ⟨-,rfl⟩:=List.mem_replicate.1 h2;exact hb
 · exact h g (qb8 h1)
theorem PinL.take{B:Int}{ps:List Pg}(h:PinL B ps)(hB:0<=B)(i k:Int){a b:Pg}(ha:a.pins=0)(hb:b.pins=0):PinL B (zgp ps i k a b):=by
 unfold zgp;split
 · split
   · exact (PinL.puts (by rw [hb];omega) _ _ _ h).set (by rw [ha];omega) _
   · exact PinL.nil B
 · exact PinL.nil B
theorem PinL.spc{B:Int}{ps:List Pg}(h:PinL B ps)(i k:Nat)(sp:Int):PinL B (spc ps i k sp):=fun g hg=>by
 obtain ⟨j,hj,rfl⟩:=List.mem_mapIdx.1 hg;have:=h ps[j] (qbU hj)
 split <;> exact this
theorem zuy{B:Int}(hB:0<=B){x:Wk}(h:PinL B x.h.pages)(a:Int):PinL B (evW x a).h.pages:=by
 unfold evW;split
 · exact h
 · exact h
 · exact h
 · exact h.spc _ _ _
 · show PinL B (zf4 (plPs x (evN x a)) _ _)
   refine PinL.use ?_ hB _ _;unfold plPs;split
   · exact h
   · unfold zcH;split
     · exact h.take hB _ _ rfl rfl
     · exact PinL.nil B
 · exact PinL.nil B
theorem zsZ{B:Int}(hB:0<=B){x:Wk}(h:PinL B x.h.pages)(p:Int):PinL B (zcr x p).h.pages:=zuy hB h _
theorem zr2{B:Int}(hB:0<=B):∀ (l:List Int) (x:Wk) (A:Int),PinL B x.h.pages->PinL B (stGo x A l).1.h.pages
 | [],_,_,h=>h
 | i::r,x,A,h=>by
  rw [stGo];split
  · exact zr2 hB r _ A (zsZ hB h _)
  · exact PinL.nil B
theorem zr3{B:Int}(hB:0<=B):∀ (f:Nat) (x:Wk),PinL B x.h.pages->PinL B (allV f x).1.h.pages
 | 0,_,h=>h
 | f+1,x,h=>by
  unfold allV;split
  · exact h
  · split
    · exact zr3 hB f _ (zr2 hB _ x _ h)
    · exact PinL.nil B
theorem zoH{B:Int}(hB:0<=B):∀ (rs:List Int) (x:Wk) (acc:List Int),PinL B x.h.pages->PinL B (zaK x acc rs).1.h.pages
 | [],_,_,h=>h
 | r::rs,x,acc,h=>by
  rw [zaK];split
  · exact zoH hB rs _ _ (zuy hB h r)
  · exact PinL.nil B
theorem zuz{B:Int}{h:Hp}(hp:PinL B h.pages):PinL B (zbV h).h.pages:=fun g hg=>by
 obtain ⟨f,hf,rfl⟩:=qay.1 (show g∈List.map _ h.pages from hg)
 have:=hp f hf
 split <;> exact this
theorem zk6:∀ (l:List Int) (x:Wk),(l.foldl zau x).h.pages=x.h.pages/\(l.foldl zau x).h.pw=x.h.pw/\(l.foldl zau x).h.np=x.h.np
 | [],_=>⟨rfl,rfl,rfl⟩
 | a::l,x=>by
  obtain ⟨e1,e2,e3⟩:=zk6 l (zau x a);obtain ⟨f1,f2,f3,-⟩:=zjj x a;exact ⟨e1.trans f3,e2.trans f1,e3.trans f2⟩
theorem zni{B:Int}(hB:0<=B){x:Wk}(h:PinL B x.h.pages):∀ k,PinL B (frPs x k)
 | 0=>h
 | k+1=>by
  rw [frPs];split
  · exact (zni hB h k).set ⟨qcc _,hB⟩ k
  · exact zni hB h k
theorem zwV(n:Nat):0<=tgtV n/\tgtV n<18446744073709551616:=by
 unfold tgtV;split
 · rename_i h;have:=zoN h
   omega
 · omega
theorem evA_in{h:Hp}{x:Wk}(I:Inv h x){a:Int}(ha:0<=a/\a<18446744073709551616)(he:evE x a=0):0<=evA x a/\evA x a<18446744073709551616:=by
 have I2:=(I.forward he).1;unfold evA;split
 · exact ha
 · exact zwV _
 · exact ha
 · exact ha
 · rename_i h7;have hq:plA x (evN x a)∈(evW x a).queue:=by
    have e:evW x a=zbA x a:=by unfold evW;rw [h7];rfl
    rw [e];exact qbl _ (qau.2 rfl)
   have:=I2.queue_bd hq
   omega
 · omega
theorem zrZ{h:Hp}:∀ (rs:List Int) (x:Wk) (acc:List Int),Inv h x->WB rs->WB acc->WB (zaK x acc rs).2.1
 | [],_,_,_,_,h=>h
 | r::rs,x,acc,I,hl,ha=>by
  rw [zaK];by_cases he:evE x r=0
  · rw [if_pos he];refine zrZ rs _ _ (I.forward he).1 (fun q hq=>hl q (qaD _ hq)) (fun q hq=>?_)
    rcases qao.1 hq with h1 | h1
    · exact ha q h1
    · rw [qau.1 h1];exact evA_in I (hl r (qaX ..)) he
  · rw [if_neg he];exact WB.nil
theorem znW:zjv:=by
 intro n x hn hm L hc;have hE:okH x.h=true/\(ziH x.h x.st).2.2=0/\(zhB x.h x.st).2=0:=by
  unfold zet at hc;split at hc
  · rename_i h1;split at hc
    · split at hc
      · rename_i h3;exact ⟨h1,h3,hc⟩
      · rename_i h3;exact absurd hc h3
    · exact absurd hc (by decide)
  · exact absurd hc (by decide)
 obtain ⟨h1,h2,h3⟩:=hE;obtain ⟨-,hr⟩:=znb x.st (zbV x.h) [] (zhC h1) L.st;obtain ⟨I7,L7,e7⟩:=hr h2;have hsc7:(zaK (zbV x.h) [] x.st).1.sc=((0:Nat):Int):=L7.sc
 obtain ⟨-,ha⟩:=zvx ((zaf x.h).length+1) (zaK (zbV x.h) [] x.st).1 0 I7 hsc7 (qbb _) (by omega)
 have I8:Inv x.h (zhB x.h x.st).1:=ha h3;have I9:Inv x.h (zbL x.h x.st x.wk):=I8.reports _ _ _ _ _ _ _;have hB:(0:Int)<=n:=by omega
 have p8:PinL n (zhB x.h x.st).1.h.pages:=zr3 hB _ _ (zoH hB _ _ _ (zuz L.pins));obtain ⟨f1,f2,f3⟩:=zk6 (zbL x.h x.st x.wk).old (zbL x.h x.st x.wk);have hfl:=I9.fill;have hpl:(zaH (zbL x.h x.st x.wk)).h.pages.length=x.h.pages.length:=by
  rw [show (zaH (zbL x.h x.st x.wk)).h.pages=(zbL x.h x.st x.wk).h.pages from f1];exact I9.pl
 have hpw:(zaH (zbL x.h x.st x.wk)).h.pw=x.h.pw:=(show (zaH (zbL x.h x.st x.wk)).h.pw=(zbL x.h x.st x.wk).h.pw from f2).trans I9.pw
 have hnp:(zaH (zbL x.h x.st x.wk)).h.np=x.h.np:=(show (zaH (zbL x.h x.st x.wk)).h.np=(zbL x.h x.st x.wk).h.np from f3).trans I9.np
 have hcf:=zaj L.conf;have hfw:=zhp (zaH (zbL x.h x.st x.wk)) (by rw [hpw];omega) (by rw [hfl,hpl,hpw,L.pages];exact L.words) (zaH (zbL x.h x.st x.wk)).h.pages.length (qan _)
 refine ⟨?_,?_,?_,?_,fun a ha=>?_,?_,?_,?_⟩
 · show confB (zaH (zbL x.h x.st x.wk)).h.pw (zaH (zbL x.h x.st x.wk)).h.np=true
   rw [hpw,hnp];exact L.conf
 · show ((frWs (zaH (zbL x.h x.st x.wk)) (zaH (zbL x.h x.st x.wk)).h.pages.length).length:Int)=(zaH (zbL x.h x.st x.wk)).h.np*(zaH (zbL x.h x.st x.wk)).h.pw
   rw [hfw,hfl,hpw,hnp];exact L.words
 · show ((frPs (zaH (zbL x.h x.st x.wk)) (zaH (zbL x.h x.st x.wk)).h.pages.length).length:Int)=(zaH (zbL x.h x.st x.wk)).h.np
   rw [zhq,hpl,hnp];exact L.pages
 · exact zrZ x.st (zbV x.h) [] (zhC h1) L.st WB.nil
 · obtain ⟨b,hb,rfl⟩:=qay.1 ha;have hbb:=L.wk b hb;unfold zf8 zhE;split
   · omega
   · split
     · exact hbb
     · exact zwV _
 · have:=L.stn
   show (zaK (zbV x.h) [] x.st).2.1.length<=_
   rw [e7];simp;omega
 · have:=L.wkn
   show (List.map _ x.wk).length<=_
   rw [qak];omega
 · intro g hg;have:=zni hB (x:=zaH (zbL x.h x.st x.wk)) (by rw [show (zaH (zbL x.h x.st x.wk)).h.pages=(zbL x.h x.st x.wk).h.pages from f1];exact p8) _ g hg
   omega
theorem zuS{pw n:Int}(h1:16<=pw)(h2:pw<=64)(h3:pw / 4<n)(h4:n<=4*pw):zeK pw n=(n+pw-1) / pw:=by
 have hd:∀ k:Int,(k-1)*pw<n->n<=k*pw->(n+pw-1) / pw=k:=by
  intro k a b;have e1:(k-1)*pw=k*pw-pw:=by rw [Int.sub_mul,qa5]
  have e2:(n+pw-1)=(n+pw-1-k*pw)+k*pw:=by omega
  rw [e2,qcD _ _ (by omega),qcC (by omega) (by omega)];omega
 unfold zeK;rw [if_neg (by omega)]
 split
 · rw [hd 1 (by omega) (by omega)]
 · split
   · rw [hd 2 (by omega) (by omega)]
   · split
     · rw [hd 3 (by omega) (by omega)]
     · rw [hd 4 (by omega) (by omega)]
def zcG(n:Int):Bool:=decide (n=0\/n=1)
def zpx(x:Pg):Bool:=decide (x.space=0/\x.used=0/\x.pins=0)
def zcZ(pw:Int)(x:Pg):Bool:=zcG x.space&&decide (0<=x.used/\x.used<=pw)&&zea x.pins
def zbI(pw np:Int)(ps:List Pg):Nat->Int->Bool
 | 0,_=>false
 | m+1,b=>if (ps.getD m Pg.zero).kind=2 then decide (b<zax pw np (ps.getD m Pg.zero).used) else zbI pw np ps m (b+1)
def zfq(pw np:Int)(ps:List Pg)(i:Nat):Bool:=zbI pw np ps i 1
def zdW(pw np:Int)(ps:List Pg)(i:Nat)(x:Pg):Bool:=decide (x.used=0/\x.pins=0)&&zfq pw np ps i
def zcp(pw np:Int)(ps:List Pg)(i:Nat)(x:Pg):Bool :=
 zcG x.space&&decide (1<=zax pw np x.used)&&zea x.pins&&decide ((i:Int)+zax pw np x.used<=ps.length)&&zbE x.space ((ps.drop (i+1)).take ((zax pw np x.used).toNat-1))
def zbq(pw np:Int)(ps:List Pg)(i:Nat)(x:Pg):Bool :=
 if x.kind=0 then zpx x else if x.kind=1 then zcZ pw x else if x.kind=2 then zcp pw np ps i x else if x.kind=3 then zdW pw np ps i x else false
def zaP(pw np:Int)(ps:List Pg):Nat->List Pg->Bool
 | _,[]=>true
 | i,x::r=>zbq pw np ps i x&&zaP pw np ps (i+1) r
def zbi(pw np:Int)(ps:List Pg):Bool:=zaP pw np ps 0 ps
theorem zsM{pw np:Int}{ps:List Pg}{i:Nat}{x:Pg}(h:ps[i]?=some x):zaP pw np ps i (ps.drop i)=(zbq pw np ps i x&&zaP pw np ps (i+1) (ps.drop (i+1))):=by
 obtain ⟨hi,rfl⟩:=qah.1 h;rw [qaW hi,zaP]
theorem zuf{pw np:Int}{ps:List Pg}{i:Nat}(h:ps.length<=i):zaP pw np ps i (ps.drop i)=true:=by
 rw [qbp h,zaP]
def zic(pw np:Int)(nw:Nat)(ps:List Pg)(sp b:Int):Bool :=
 confB pw np&&decide ((nw:Int)=np*pw)&&decide ((ps.length:Int)=np)&&zcG sp&&zdS ps b&&zbi pw np ps
theorem zr1{ps:List Pg}{i k:Nat}{x y:Pg}(h:i+k<=ps.length)(h1:1<=k):(put ps i k y).set i x=put (ps.set i x) (i+1) (k-1) y:=by
 have hl:(ps.set i x).length=ps.length:=List.length_set
 apply qbn
 intro j;rw [qaP];have hp:(put ps i k y).length=ps.length:=zd8 h
 by_cases hj:i=j
 · rw [if_pos hj,if_pos (by omega),zdn (by omega) (Or.inr (by omega)),qaP,if_pos hj,if_pos (by omega)]
 · rw [if_neg hj];by_cases h2:i+1<=j/\j<i+k
   · rw [zkt h (by omega) (by omega),zkt (by omega) h2.1 (by omega)]
   · rw [zdn h (by omega),zdn (by omega) (by omega),qaP,if_neg hj]
theorem zeC{sp:Int}:zcG sp=true↔0<=sp/\sp<=1:=by
 unfold zcG;rw [qaa];omega
theorem zgV(pw np:Int)(ps:List Pg):∀ (l:List Pg) (i:Nat),zaP pw np ps i l=true↔∀ j x,l[j]?=some x->zbq pw np ps (i+j) x=true
 | [],i=>by simp [zaP]
 | y::r,i=>by
  rw [zaP,qae,zgV pw np ps r (i+1)];constructor
  · rintro ⟨h1,h2⟩ j x hx;cases j with
    | zero=>simp at hx;subst hx;exact h1
    | succ j=>rw [qb2]at hx;have:=h2 j x hx;rwa [show i+1+j=i+(j+1) by omega]at this
  · intro h;refine ⟨h 0 y rfl,fun j x hx=>?_⟩
    have:=h (j+1) x (by rw [qb2];exact hx)
    rwa [show i+(j+1)=i+1+j by omega]at this
theorem za9{pw np:Int}{ps:List Pg}:zbi pw np ps=true↔∀ i x,ps[i]?=some x->zbq pw np ps i x=true:=by
 unfold zbi;rw [zgV];simp only [qaZ]
theorem zbY{sp:Int}{ps:List Pg}{i m:Nat}:zbE sp ((ps.drop i).take m)=true↔∀ t,i<=t->t<i+m->∀ z,ps[t]?=some z->z.kind=3/\z.space=sp:=by
 unfold zbE;rw [qaQ];constructor
 · intro h t h1 h2 z hz;have hm:z∈(ps.drop i).take m:=by
    refine qav (i:=t-i) ?_
    rw [qa8,if_pos (by omega),qba,show i+(t-i)=t by omega];exact hz
   exact qar (h z hm)
 · intro h z hz;obtain ⟨j,hj⟩:=List.getElem?_of_mem hz;rw [qa8]at hj;split at hj
   · rename_i hjm;rw [qba]at hj;exact qab (h (i+j) (by omega) (by omega) z hj)
   · cases hj
theorem zcJ(pw np:Int)(ps:List Pg):∀ (t:Nat) (b:Int),zbI pw np ps t b=true↔∃ l,l<t/\(ps.getD l Pg.zero).kind=2/\(∀ m,l<m->m<t->¬(ps.getD m Pg.zero).kind=2)/\b+(t-1-l:Int)<zax pw np (ps.getD l Pg.zero).used
 | 0,b=>by
  rw [zbI];constructor
  · intro h;cases h
  · rintro ⟨l,h,-⟩;omega
 | t+1,b=>by
  rw [zbI];by_cases h2:(ps.getD t Pg.zero).kind=2
  · rw [if_pos h2];constructor
    · intro h;have:=qar h
      exact ⟨t,by omega,h2,fun m a c=>by omega,by omega⟩
    · rintro ⟨l,h3,h4,h5,h6⟩;by_cases hl:l=t
      · subst hl;exact qab (by omega)
      · exact absurd h2 (h5 t (by omega) (by omega))
  · rw [if_neg h2,zcJ pw np ps t (b+1)];constructor
    · rintro ⟨l,h3,h4,h5,h6⟩;refine ⟨l,by omega,h4,fun m a c=>?_,by omega⟩
      by_cases hm:m=t
      · subst hm;exact h2
      · exact h5 m a (by omega)
    · rintro ⟨l,h3,h4,h5,h6⟩;have hl:l≠t:=fun e=>h2 (e ▸ h4)
      exact ⟨l,by omega,h4,fun m a c=>h5 m a (by omega),by omega⟩
theorem zkj{pw np:Int}{ps:List Pg}{j:Nat}{x y:Pg}(h:zbi pw np ps=true)(hy:ps[j]?=some y)(hk:y.kind=0\/y.kind=1)(hx:x.kind=1)(hs:zcZ pw x=true):zbi pw np (ps.set j x)=true:=by
 rw [za9]at h ⊢
 have hjl:=(qah.1 hy).1;have hget:∀ t,(ps.set j x)[t]?=if j=t then some x else ps[t]?:=fun t=>by
  rw [qaP];by_cases e:j=t
  · subst e;rw [if_pos rfl,if_pos rfl,if_pos hjl]
  · rw [if_neg e,if_neg e]
 have hD:∀ t,¬j=t->(ps.set j x).getD t Pg.zero=ps.getD t Pg.zero:=fun t ht=>by rw [qaA,qaA,hget,if_neg ht]
 have hDj:(ps.set j x).getD j Pg.zero=x:=zar (by rw [hget,if_pos rfl])
 have hDy:ps.getD j Pg.zero=y:=zar hy
 have hk2:∀ t,(((ps.set j x).getD t Pg.zero).kind=2↔(ps.getD t Pg.zero).kind=2):=fun t=>by
  by_cases ht:j=t
  · subst ht;rw [hDj,hDy];constructor <;> intro c <;> omega
  · rw [hD t ht]
 intro i z hz;rw [hget]at hz;split at hz
 · cases hz;unfold zbq;rw [if_neg (by omega),if_pos hx]
   exact hs
 · rename_i hji;have hp:=h i z hz;unfold zbq at hp ⊢
   split
   · rename_i k0;rw [if_pos k0]at hp;exact hp
   · rename_i k0;rw [if_neg k0]at hp;split
     · rename_i k1;rw [if_pos k1]at hp;exact hp
     · rename_i k1;rw [if_neg k1]at hp;split
       · rename_i k2;rw [if_pos k2]at hp;unfold zcp at hp ⊢
         rw [List.length_set];rw [qae]at hp ⊢
         refine ⟨hp.1,?_⟩;rw [zbY] at *
         intro t h1 h2 z' hz'
         rw [hget]at hz'
         split at hz'
         · rename_i e;subst e;have:=hp.2 j h1 h2 y hy
           omega
         · exact hp.2 t h1 h2 z' hz'
       · rename_i k2;rw [if_neg k2]at hp;split
         · rename_i k3;rw [if_pos k3]at hp;unfold zdW zfq at hp ⊢
           rw [qae]at hp ⊢
           refine ⟨hp.1,?_⟩;obtain ⟨l,h1,h2,h3,h4⟩:=(zcJ pw np ps i 1).1 hp.2;have hlj:¬j=l:=fun e=>by subst e;rw [hDy]at h2;omega
           exact (zcJ pw np _ i 1).2 ⟨l,h1,(hk2 l).2 h2,fun m a c hh=>h3 m a c ((hk2 m).1 hh),by rw [hD l hlj];exact h4⟩
         · rename_i k3;rw [if_neg k3]at hp;cases hp
theorem zqk{pw np:Int}{ps:List Pg}{i k:Nat}{sp n:Int}(h:zbi pw np ps=true)(hf:zcq ps i k=true)(hl:i+k<=ps.length)(h1:1<=k)(hs:zcG sp=true)(hn:zax pw np n=k):
 zbi pw np (put (ps.set i ⟨2,sp,n,0⟩) (i+1) (k-1) ⟨3,sp,0,0⟩)=true:=by
 rw [za9]at h ⊢
 have hfree:∀ t,i<=t->t<i+k->∀ z,ps[t]?=some z->z.kind=0:=fun t a c z hz=>by
  have hz':z∈(ps.drop i).take k:=by
   refine qav (i:=t-i) ?_
   rw [qa8,if_pos (by omega),qba,show i+(t-i)=t by omega];exact hz
  unfold zcq at hf;exact qar (qaQ.1 hf z hz')
 obtain ⟨qs,hqs⟩:∃ qs,put (ps.set i ⟨2,sp,n,0⟩) (i+1) (k-1) ⟨3,sp,0,0⟩=qs:=⟨_,rfl⟩
 rw [hqs];have hql:qs.length=ps.length:=by rw [<-hqs,zd8 (by rw [List.length_set];omega),List.length_set]
 have hget:∀ t,qs[t]?=if t=i then some ⟨2,sp,n,0⟩ else if i<=t/\t<i+k then some ⟨3,sp,0,0⟩ else ps[t]?:=fun t=>by
  rw [<-hqs];split
  · rename_i e;subst e;rw [zdn (by rw [List.length_set];omega) (Or.inr (by omega)),qaP,if_pos rfl,if_pos (by omega)]
  · rename_i e;split
    · rename_i hr;rw [zkt (by rw [List.length_set];omega) (by omega) (by omega)]
    · rw [zdn (by rw [List.length_set];omega) (by omega),qaP,if_neg (by omega)]
 have hin:∀ t,i<=t->t<i+k->∃ z,ps[t]?=some z:=fun t a c=>⟨_,qal (show t<ps.length by omega)⟩
 have hD:∀ t,¬(i<=t/\t<i+k)->qs.getD t Pg.zero=ps.getD t Pg.zero:=fun t ht=>by rw [qaA,qaA,hget,if_neg (by omega),if_neg ht]
 have hDi:qs.getD i Pg.zero=⟨2,sp,n,0⟩:=zar (by rw [hget,if_pos rfl])
 have hDt:∀ t,i<t->t<i+k->qs.getD t Pg.zero=⟨3,sp,0,0⟩:=fun t a c=>zar (by rw [hget,if_neg (by omega),if_pos ⟨by omega,c⟩])
 have hD0:∀ t,i<=t->t<i+k->(ps.getD t Pg.zero).kind=0:=fun t a c=>by
  obtain ⟨z,hz⟩:=hin t a c;rw [zar hz];exact hfree t a c z hz
 intro t z hz;rw [hget]at hz;split at hz
 · rename_i e;subst e;cases hz;unfold zbq;rw [if_neg (show ¬(2:Int)=0 by decide),if_neg (show ¬(2:Int)=1 by decide),if_pos rfl]
   unfold zcp;simp only
   rw [hs,hn,hql,qab (show (1:Int)<=k by omega),qab (show (t:Int)+k<=ps.length by omega),show zea 0=true from rfl,qaS,qaS,qaS,qaS,zbY]
   intro u a c z hz;rw [hget,if_neg (by omega),if_pos (by omega)]at hz
   cases hz;exact ⟨rfl,rfl⟩
 · rename_i e;split at hz
   · rename_i hr;cases hz;unfold zbq;rw [if_neg (show ¬(3:Int)=0 by decide),if_neg (show ¬(3:Int)=1 by decide),if_neg (show ¬(3:Int)=2 by decide),if_pos rfl]
     unfold zdW zfq;rw [show decide ((0:Int)=0/\(0:Int)=0)=true from rfl,qaS,zcJ]
     refine ⟨i,by omega,by rw [hDi],fun m a c=>?_,?_⟩
     · rw [hDt m a (by omega)];simp
     · rw [hDi];simp only;rw [hn];omega
   · rename_i hr;have hp:=h t z hz;unfold zbq at hp ⊢
     split
     · rename_i k0;rw [if_pos k0]at hp;exact hp
     · rename_i k0;rw [if_neg k0]at hp;split
       · rename_i k1;rw [if_pos k1]at hp;exact hp
       · rename_i k1;rw [if_neg k1]at hp;split
         · rename_i k2;rw [if_pos k2]at hp;unfold zcp at hp ⊢
           rw [hql];rw [qae]at hp ⊢
           refine ⟨hp.1,?_⟩;rw [zbY] at *
           intro u a c z' hz'
           by_cases hu:i<=u/\u<i+k
           · obtain ⟨y,hy⟩:=hin u hu.1 hu.2;have h3:=(hp.2 u a c y hy).1;have h0:=hfree u hu.1 hu.2 y hy;omega
           · rw [hget,if_neg (by omega),if_neg hu]at hz'
             exact hp.2 u a c z' hz'
         · rename_i k2;rw [if_neg k2]at hp;split
           · rename_i k3;rw [if_pos k3]at hp;unfold zdW zfq at hp ⊢
             rw [qae]at hp ⊢
             refine ⟨hp.1,?_⟩;obtain ⟨l,h2,h3,h4,h5⟩:=(zcJ pw np ps t 1).1 hp.2;have hlo:¬(i<=l/\l<i+k):=fun c=>by have:=hD0 l c.1 c.2;omega
             have htl:t<ps.length:=(qah.1 hz).1;have hlz:ps[l]?=some (ps[l]'(by omega)):=qal _
             have hpl:=h l _ hlz;rw [zar hlz]at h3 h5;unfold zbq at hpl;rw [if_neg (by omega),if_neg (by omega),if_pos h3]at hpl
             unfold zcp at hpl;rw [qae,zbY]at hpl;have hnot:∀ m,l<m->m<t->¬(i<=m/\m<i+k):=fun m a c hc=>by
              obtain ⟨y,hy⟩:=hin m hc.1 hc.2;have q3:=(hpl.2 m (by omega) (by omega) y hy).1
              have q0:=hfree m hc.1 hc.2 y hy;omega
             refine (zcJ pw np qs t 1).2 ⟨l,h2,by rw [hD l hlo,zar hlz];exact h3,fun m a c=>by rw [hD m (hnot m a c)];exact h4 m a c,by rw [hD l hlo,zar hlz];exact h5⟩
           · rename_i k3;rw [if_neg k3]at hp;cases hp
theorem zg2(pw np:Int)(ps:List Pg):∀ (i:Nat) (b:Int),1<=b->(zbI pw np ps i b=true↔b<=zfd pw np ps i)
 | 0,b,hb=>by
  rw [zbI,zfd];constructor
  · intro h;cases h
  · intro h;omega
 | i+1,b,hb=>by
  rw [zbI,zfd];by_cases h2:(ps.getD i Pg.zero).kind=2
  · rw [if_pos h2,if_pos h2,qaa];omega
  · rw [if_neg h2,if_neg h2,zg2 pw np ps i (b+1) (by omega)];omega
theorem zkk{pw np:Int}{ps:List Pg}(h:zaL pw np ps 0=true):zbi pw np ps=true:=by
 rw [za9];intro i x hx;have hi:i<ps.length:=(qah.1 hx).1;have hp:=zkx h i (by omega)
 obtain ⟨_,rfl⟩:=qah.1 hx;rw [qaW hi,zaL]at hp;generalize hX:ps[i]=x at *
 cases hs:zcc pw np x (ps.drop (i+1)) (zfd pw np ps i) with
 | none=>rw [hs]at hp;cases hp
 | some d=>
  unfold zcc at hs;split at hs
  · cases hs
  · rename_i hA;have hsp:zcG x.space=true:=zeC.2 ⟨by omega,by omega⟩
    have hpn:zea x.pins=true:=by
     cases hp':zea x.pins
     · exact absurd (Or.inr (Or.inr (Or.inr hp'))) hA
     · rfl
    unfold zbq;split
    · rename_i k0;rw [if_pos k0]at hs;split at hs
      · rename_i e;rw [e];rfl
      · cases hs
    · rename_i k0;rw [if_neg k0]at hs;split
      · rename_i k1;rw [if_pos k1]at hs;split at hs
        · cases hs
        · unfold zcZ;rw [hsp,hpn,qab (show 0<=x.used/\x.used<=pw by omega)];rfl
      · rename_i k1;rw [if_neg k1]at hs;split
        · rename_i k2;rw [if_pos k2]at hs;split at hs
          · cases hs
          · rename_i hB;have hn1:1<=zax pw np x.used:=by omega
            obtain ⟨t1,t2⟩:=(zjX x.space (ps.drop (i+1)) ((zax pw np x.used).toNat-1)).1 (by omega)
            rw [qaM]at t1;unfold zcp;rw [hsp,hpn,qab hn1,qab (show (i:Int)+zax pw np x.used<=ps.length by omega),t2];rfl
        · rename_i k2;rw [if_neg k2]at hs;split
          · rename_i k3;rw [if_pos k3]at hs;split at hs
            · rename_i e;unfold zdW;rw [qab e,qaS];unfold zfq;rw [zg2 pw np ps i 1 (by omega)]
              have:x.kind=3↔0<zfd pw np ps i:=Classical.not_not.1 fun c=>hA (Or.inl c)
              have:=this.1 k3
              omega
            · cases hs
          · rename_i k3;rw [if_neg k3]at hs;cases hs
theorem zfi{pw np:Int}{ps:List Pg}(h:zbi pw np ps=true):∀ (k i:Nat),i+k=ps.length->zaL pw np (ps.drop i) (zfd pw np ps i)=true
 | 0,i,hi=>by rw [qbs (by omega)];rfl
 | k+1,i,hi=>by
  have ih:=zfi h k (i+1) (by omega)
  have hlt:i<ps.length:=by omega
  have hx:ps[i]?=some (ps[i]'hlt):=qal _
  rw [za9]at h;have hp:=h i _ hx;rw [qaW hlt,zaL];generalize ps[i]'hlt=x at *
  have hdue:0<zfd pw np ps i->x.kind=3/\0<=x.space/\x.space<=1:=fun hd=>by
   obtain ⟨l,h1,h2,-,h4⟩:=(zcJ pw np ps i 1).1 ((zg2 pw np ps i 1 (by omega)).2 (by omega))
   have hl:ps[l]?=some (ps[l]'(by omega)):=qal _
   have hpl:=h l _ hl;rw [zar hl]at h2 h4;unfold zbq at hpl;rw [if_neg (by omega),if_neg (by omega),if_pos h2]at hpl
   unfold zcp at hpl;simp only [qae]at hpl;have ht:=(zbY.1 hpl.2) i (by omega) (by omega) x hx
   have hs:=zeC.1 hpl.1.1.1.1;exact ⟨ht.1,by omega,by omega⟩
  have key:zcc pw np x (ps.drop (i+1)) (zfd pw np ps i)≠none:=by
   have h3:x.kind=3->0<zfd pw np ps i/\x.used=0/\x.pins=0:=fun k3=>by
    unfold zbq at hp;rw [if_neg (by omega),if_neg (by omega),if_neg (by omega),if_pos k3]at hp
    unfold zdW at hp;rw [qae,qaa]at hp;have:=(zg2 pw np ps i 1 (by omega)).1 hp.2
    exact ⟨by omega,hp.1⟩
   have hiff:x.kind=3↔0<zfd pw np ps i:=⟨fun k=>(h3 k).1,fun d=>(hdue d).1⟩
   unfold zbq at hp;unfold zcc;split at hp
   · rename_i k0;obtain ⟨a1,a2,a3⟩:=qar hp;have ex:x=Pg.zero:=by cases x;simp only at k0 a1 a2 a3;subst k0 a1 a2 a3;rfl
     rw [if_neg (by rw [a1,a3];rintro (c | c | c | c);exact c hiff;omega;omega;cases c),if_pos k0,if_pos ex]
     exact fun c=>by cases c
   · rename_i k0;split at hp
     · rename_i k1;unfold zcZ at hp;simp only [qae,qaa]at hp;have hs:=zeC.1 hp.1.1;rw [if_neg (by rintro (c | c | c | c);exact c hiff;omega;omega;rw [hp.2]at c;cases c),if_neg k0,if_pos k1,if_neg (by omega)]
       exact fun c=>by cases c
     · rename_i k1;split at hp
       · rename_i k2;unfold zcp at hp;simp only [qae,qaa]at hp;obtain ⟨⟨⟨⟨a1,a2⟩,a3⟩,a4⟩,a5⟩:=hp;have hs:=zeC.1 a1;have ht:=(zjX x.space (ps.drop (i+1)) ((zax pw np x.used).toNat-1)).2 ⟨by rw [qaM];omega,a5⟩
         rw [if_neg (by rintro (c | c | c | c);exact c hiff;omega;omega;rw [a3]at c;cases c),if_neg k0,if_neg k1,if_pos k2,if_neg (by omega)]
         exact fun c=>by cases c
       · rename_i k2;split at hp
         · rename_i k3;obtain ⟨b1,b2,b3⟩:=h3 k3;obtain ⟨-,c1,c2⟩:=hdue b1;rw [if_neg (by rw [b3];rintro (c | c | c | c);exact c hiff;omega;omega;cases c),if_neg k0,if_neg k1,if_neg k2,if_pos k3,if_pos ⟨b2,b3⟩]
           exact fun c=>by cases c
         · cases hp
  cases hs:zcc pw np x (ps.drop (i+1)) (zfd pw np ps i) with
  | none=>exact absurd hs key
  | some d=>
   simp only
   rw [zsw hx hs];exact ih
theorem zjd(pw np:Int)(ps:List Pg):zaL pw np ps 0=zbi pw np ps:=by
 cases h:zbi pw np ps
 · cases h2:zaL pw np ps 0
   · rfl
   · rw [zkk h2]at h;cases h
 · have:=zfi h ps.length 0 (by omega)
   rwa [qb5]at this
theorem zce(pw np:Int)(nw:Nat)(ps:List Pg)(sp b:Int):zic pw np nw ps sp b=zc0 pw np nw ps sp b:=by
 unfold zic zc0;rw [zjd];have:zcG sp=decide (0<=sp/\sp<=1):=by
  unfold zcG;by_cases h:0<=sp/\sp<=1
  · rw [qab h];exact qab (by omega)
  · rw [qaj h];exact qaj (by omega)
 rw [this]
theorem zvt{pw np k n m:Int}(h:k=0):ziK pw np k n m=false:=by
 unfold ziK;simp [h]
theorem zvu{pw np k n m:Int}(h:¬k=0):ziK pw np k n m=(zax pw np (zaT k n m) != -1):=by
 unfold ziK;cases hv:zaD k n m
 · rw [zqn hv,zgB (Or.inr (by omega))];rfl
 · by_cases hz:zax pw np (zaT k n m) = -1 <;> simp [h,hz]
structure PlOK7 (h:Hp):Prop where
 conf:confB h.pw h.np=true
 len:(h.pages.length:Int)=h.np
 sp:0<=h.space/\h.space<=1
 bp:h.bump = -1\/∃ K:Nat,∃ x:Pg,h.bump=K/\h.pages[K]?=some x/\x.kind=1/\0<=x.used/\x.used<=h.pw
theorem PlOK7.bump{h:Hp}(hp:PlOK7 h):(h.bump = -1\/0<=h.bump/\h.bump<h.pages.length)/\(¬h.bump = -1->0<=(h.pages.getD h.bump.toNat Pg.zero).used/\(h.pages.getD h.bump.toNat Pg.zero).used<=100000):=by
 obtain ⟨_,k2,_⟩:=zaj hp.conf;rcases hp.bp with h1 | ⟨K,x,h1,h2,-,h3,h4⟩
 · exact ⟨Or.inl h1,fun c=>absurd h1 c⟩
 · have:=(qah.1 h2).1
   rw [h1,qad,zar h2];exact ⟨Or.inr ⟨by omega,by omega⟩,fun _=>⟨h3,by omega⟩⟩
theorem zfJ{pw np:Int}{K:Nat}{o:Int}(hc:confB pw np=true)(hk:(K:Int)<np)(h0:0<=o)(h1:o<pw):zlo pw np K o=0/\za7 pw np K o=4096+K*pw+o:=by
 obtain ⟨a,b⟩:=zdN hc (p:=(K:Int)) (o:=o) (qab ⟨by omega,hk,h0,h1⟩)
 exact ⟨b,a⟩
theorem zms{h:Hp}{nn:Int}(hp:PlOK7 h)(h1:1<=nn)(hn:newB h nn=false):
 ∃ (K:Nat) (x:Pg),h.bump=K/\h.pages[K]?=some x/\(0<=x.used/\x.used<=100000)/\zb1 h nn=true/\zjb h nn=⟨h.pw,h.np,h.words,h.pages.set K ⟨x.kind,x.space,x.used+nn,x.pins⟩,h.space,K⟩/\zlo h.pw h.np K x.used=0/\zgW h nn=za7 h.pw h.np K x.used:=by
 have hd:=qa9 hn;obtain ⟨_,k2,_⟩:=zaj hp.conf;rcases hp.bp with h2 | ⟨K,x,h2,h3,-,h4,h5⟩
 · exact absurd (Or.inl (by omega)) hd
 · have hK:=(qah.1 h3).1;have hbp:zjm h=x:=by unfold zjm;rw [h2,qad,zar h3]
   have hl:=hp.len;rw [hbp]at hd;obtain ⟨a,b⟩:=zfJ (K:=K) (o:=x.used) hp.conf (by omega) h4 (by omega)
   have hJ:ze4 h nn=K:=by unfold ze4;rw [hn];exact h2
   have hP:zbH h nn=h.pages:=by unfold zbH;rw [hn];rfl
   refine ⟨K,x,h2,h3,⟨h4,by omega⟩,by unfold zb1;rw [hn];rfl,?_,a,?_⟩
   · unfold zjb zf4;rw [hJ,hP,qad,zar h3]
   · unfold zgW;rw [hJ,hP,qad,zar h3,b]
theorem zoE{h:Hp}{nn:Int}(hp:PlOK7 h)(hn:newB h nn=true)(hf:zdD h=false):
 ∃ (K:Nat),zaC h.pages 1=K/\K<h.pages.length/\zh8 h.pages K h.space=0/\zcH h.pages K h.space=h.pages.set K ⟨1,h.space,0,0⟩/\(∃ y,h.pages[K]?=some y/\y.kind=0)/\zb1 h nn=true/\zjb h nn=⟨h.pw,h.np,h.words,(h.pages.set K ⟨1,h.space,0,0⟩).set K ⟨1,h.space,0+nn,0⟩,h.space,K⟩/\zlo h.pw h.np K 0=0/\zgW h nn=za7 h.pw h.np K 0:=by
 have hd:=qa9 hf;have hF:0<=zaC h.pages 1:=by omega
 obtain ⟨-,f1,f2⟩:=zc4 hF;obtain ⟨K,hK⟩:=qaT hF;rw [hK]at f1 f2;obtain ⟨y,hy,hy0⟩:=f2 K (by omega) (by omega)
 have hlt:K<h.pages.length:=(qah.1 hy).1;have hfree:zcq h.pages K 1=true:=by
  have:=zb2 (ps:=h.pages) (i:=K) (k:=0) (x:=y) (by rw [qbd];exact hy)
  rw [zcy,hy0]at this;simpa using this
 obtain ⟨t1,t2⟩:=zh5 (x:=⟨1,h.space,0,0⟩) (y:=Pg.zero) hlt (show K+1<=h.pages.length by omega) hfree
 rw [zr1 (by omega) (by omega),zng]at t1
 have hps:zcH h.pages K h.space=h.pages.set K ⟨1,h.space,0,0⟩:=by
  unfold zcH;rw [if_pos hp.sp];exact t1
 have hpe:zh8 h.pages K h.space=0:=by unfold zh8;rw [if_pos hp.sp];exact t2
 have hl:=hp.len;obtain ⟨k1,k2,_⟩:=zaj hp.conf;obtain ⟨a,b⟩:=zfJ (K:=K) (o:=0) hp.conf (by omega) (by omega) (by omega)
 have hJ:ze4 h nn=K:=by unfold ze4;rw [hn];exact hK
 have hP:zbH h nn=h.pages.set K ⟨1,h.space,0,0⟩:=by unfold zbH;rw [hn,if_pos rfl,hK,hps]
 have hg:(h.pages.set K ⟨1,h.space,0,0⟩)[K]?=some ⟨1,h.space,0,0⟩:=by rw [qaP,if_pos rfl,if_pos hlt]
 refine ⟨K,hK,hlt,hpe,hps,⟨y,hy,hy0⟩,by unfold zb1;rw [hn,hf];rfl,?_,a,?_⟩
 · unfold zjb zf4;rw [hJ,hP,qad,zar hg]
 · unfold zgW;rw [hJ,hP,qad,zar hg,b]
theorem zsY{h:Hp}{nn:Int}(hn:newB h nn=true)(hf:zdD h=true):zb1 h nn=false:=by
 unfold zb1;rw [hn,hf];rfl
theorem zqu{h:Hp}{n k:Int}(hp:PlOK7 h)(hk:zax h.pw h.np n=k)(h1:1<=k)(hF:0<=zaC h.pages k):
 ∃ (K kk:Nat),k=kk/\zaC h.pages k=K/\K+kk<=h.pages.length/\zcq h.pages K kk=true/\zgD h.pw h.np h.pages K h.space n=0/\zed h.pw h.np h.pages K h.space n=put (h.pages.set K ⟨2,h.space,n,0⟩) (K+1) (kk-1) ⟨3,h.space,0,0⟩/\zlo h.pw h.np K 0=0/\zjg h k=za7 h.pw h.np K 0:=by
 obtain ⟨-,f1,f2⟩:=zc4 hF;obtain ⟨K,hK⟩:=qaT hF;obtain ⟨kk,hkk⟩:=qaT (show 0<=k by omega)
 rw [hK]at f1 f2;have hfree:∀ j:Nat,j<=kk->zcq h.pages K j=true:=by
  intro j;induction j with
  | zero=>intro _;exact zcy _ _
  | succ j ih=>
   intro hj;obtain ⟨y,hy,hy0⟩:=f2 (K+j) (by omega) (by omega)
   rw [zb2 hy,ih (by omega),hy0];rfl
 have hl:=hp.len;obtain ⟨k1,k2,_⟩:=zaj hp.conf;obtain ⟨a,b⟩:=zfJ (K:=K) (o:=0) hp.conf (by omega) (by omega) (by omega)
 obtain ⟨t1,t2⟩:=zh5 (x:=⟨2,h.space,n,0⟩) (y:=⟨3,h.space,0,0⟩) (show K<h.pages.length by omega) (show K+kk<=h.pages.length by omega) (hfree kk (qan _))
 rw [zr1 (by omega) (by omega)]at t1
 obtain ⟨e1,e2⟩:=zu1 (ps:=h.pages) (i:=(K:Int)) (show 1<=zax h.pw h.np n/\0<=h.space/\h.space<=1 from ⟨by omega,hp.sp⟩)
 refine ⟨K,kk,hkk,hK,by omega,hfree kk (qan _),?_,?_,a,?_⟩
 · rw [e2,hk,hkk];exact t2
 · rw [e1,hk,hkk];exact t1
 · unfold zjg;rw [hK,b];omega
def zdo(h:Hp)(n:Int):Bool:=if 0<zax h.pw h.np n then zeN h (zax h.pw h.np n) else zb1 h n
def zbT(h:Hp)(n:Int):Hp:=if 0<zax h.pw h.np n then zkU h n (zax h.pw h.np n) else zjb h n
def zb6(h:Hp)(n:Int):Int:=if 0<zax h.pw h.np n then zjg h (zax h.pw h.np n) else zgW h n
def okP(h:Hp):Bool:=zic h.pw h.np h.words.length h.pages h.space h.bump
theorem za2{h:Hp}(hp:okP h=true):confB h.pw h.np=true/\(h.words.length:Int)=h.np*h.pw/\(h.pages.length:Int)=h.np/\zcG h.space=true/\zdS h.pages h.bump=true/\zbi h.pw h.np h.pages=true:=by
 unfold okP zic at hp;simp only [qae,qaa]at hp;obtain ⟨⟨⟨⟨⟨h1,h2⟩,h3⟩,h4⟩,h5⟩,h6⟩:=hp;exact ⟨h1,h2,h3,h4,h5,h6⟩
theorem zoO{h:Hp}(h1:confB h.pw h.np=true)(h2:(h.words.length:Int)=h.np*h.pw)(h3:(h.pages.length:Int)=h.np)(h4:zcG h.space=true)(h5:zdS h.pages h.bump=true)(h6:zbi h.pw h.np h.pages=true):okP h=true:=by
 unfold okP zic;rw [h1,qab h2,qab h3,h4,h5,h6];rfl
theorem zjZ{pw np:Int}{ps:List Pg}{K:Nat}{x:Pg}(h:zbi pw np ps=true)(hx:ps[K]?=some x)(h1:x.kind=1):zcG x.space=true/\(0<=x.used/\x.used<=pw)/\zea x.pins=true:=by
 have:=za9.1 h K x hx
 unfold zbq at this;rw [if_neg (by omega),if_pos h1]at this
 unfold zcZ at this;rw [qae,qae,qaa]at this;exact ⟨this.1.1,this.1.2,this.2⟩
theorem PlOK7.of{h:Hp}(hp:okP h=true):PlOK7 h:=by
 obtain ⟨h1,h2,h3,h4,h5,h6⟩:=za2 hp;refine ⟨h1,h3,zeC.1 h4,?_⟩;rcases qar h5 with e | ⟨e1,e2,e3⟩
 · exact Or.inl e
 · have hx:h.pages[h.bump.toNat]?=some (h.pages[h.bump.toNat]'(by omega)):=qal _
   rw [zar hx]at e3;obtain ⟨-,hu,-⟩:=zjZ h6 hx e3;exact Or.inr ⟨h.bump.toNat,_,by omega,hx,e3,hu.1,hu.2⟩
theorem zsc{pw n:Int}(hn:0<zeK pw n):n<=zeK pw n*pw:=by
 unfold zeK at *
 split at hn
 · omega
 · rename_i h0;rw [if_neg h0];split at hn
   · rename_i h1;rw [if_pos h1];omega
   · rename_i h1;rw [if_neg h1];split at hn
     · rename_i h2;rw [if_pos h2];omega
     · rename_i h2;rw [if_neg h2];split at hn
       · rename_i h3;rw [if_pos h3];omega
       · rename_i h3;rw [if_neg h3];split at hn
         · rename_i h4;rw [if_pos h4];omega
         · omega
theorem zkR{pw np n:Int}(hc:confB pw np=true)(h0:¬0<zax pw np n)(h1:¬zax pw np n = -1):1<=n/\n<=pw / 4:=by
 have hz:zax pw np n=0:=by have:=znE pw np n;omega
 by_cases hn:1<=n
 · rw [zgA hc hn]at hz;refine ⟨hn,?_⟩;unfold zeK at hz;split at hz
   · assumption
   · split at hz
     · omega
     · split at hz
       · omega
       · split at hz
         · omega
         · split at hz <;> omega
 · rw [zgB (Or.inr (by omega))]at hz;omega
theorem zj9{ps:List Pg}{K:Nat}{x:Pg}(h:ps[K]?=some x)(h1:x.kind=1):zdS ps K=true:=by
 have:=(qah.1 h).1
 refine qab (Or.inr ⟨by omega,by omega,?_⟩)
 rw [qad,zar h];exact h1
theorem zfk{h:Hp}{s:Int}(hp:okP h=true)(h1:1<=s)(hn:¬zax h.pw h.np s = -1)(hok:zdo h s=true):
 okP (zbT h s)=true/\(zbT h s).words=h.words/\(0<=zb6 h s/\zb6 h s<18446744073709551616)/\okA h.words.length (zb6 h s) s.toNat=true:=by
 obtain ⟨p1,p2,p3,p4,p5,p6⟩:=za2 hp;have hpl:=PlOK7.of hp;obtain ⟨g1,g2⟩:=conf_prod p1;obtain ⟨k1,k2,-,k4,k5⟩:=zaj p1;unfold zdo at hok;unfold zbT zb6;by_cases hk:0<zax h.pw h.np s
 · rw [if_pos hk]at hok;rw [if_pos hk,if_pos hk];have hd:=qar hok;obtain ⟨K,kk,e1,e2,e3,e4,-,e6,-,e8⟩:=zqu (n:=s) hpl rfl (by omega) (show 0<=zaC h.pages (zax h.pw h.np s) by omega)
   have hH:zkU h s (zax h.pw h.np s)={ h with pages:=put (h.pages.set K ⟨2,h.space,s,0⟩) (K+1) (kk-1) ⟨3,h.space,0,0⟩ }:=by unfold zkU;rw [e2,e6]
   have hlen:(put (h.pages.set K ⟨2,h.space,s,0⟩) (K+1) (kk-1) ⟨3,h.space,0,0⟩).length=h.pages.length:=by rw [zd8 (by rw [List.length_set];omega),List.length_set]
   obtain ⟨a1,a2⟩:=zfJ (K:=K) (o:=0) p1 (by omega) (by omega) (by omega)
   have hsz:s<=zax h.pw h.np s*h.pw:=by
    have h3:=zgA p1 h1;rw [h3]at hk ⊢
    exact zsc hk
   have hmul:(K:Int)*h.pw+zax h.pw h.np s*h.pw<=h.np*h.pw:=by
    rw [<-qa7];exact qaK (by omega) (by omega)
   have hK0:0<=(K:Int)*h.pw:=qa4 (by omega) (by omega)
   rw [hH,e8,a2];refine ⟨zoO p1 p2 (by simp only;rw [hlen];exact p3) p4 ?_ (zqk p6 e4 e3 (by omega) p4 e1),rfl,⟨by omega,by omega⟩,qab ⟨by omega,by omega⟩⟩
   simp only
   rcases qar p5 with e | ⟨c1,c2,c3⟩
   · exact qab (Or.inl e)
   · have hx:h.pages[h.bump.toNat]?=some (h.pages[h.bump.toNat]'(by omega)):=qal _
     rw [zar hx]at c3;have hnf:¬(K<=h.bump.toNat/\h.bump.toNat<K+kk):=fun c=>by
      have hz':h.pages[h.bump.toNat]'(by omega)∈(h.pages.drop K).take kk:=by
       refine qav (i:=h.bump.toNat-K) ?_
       rw [qa8,if_pos (by omega),qba,show K+(h.bump.toNat-K)=h.bump.toNat by omega];exact hx
      unfold zcq at e4;have:=qar (qaQ.1 e4 _ hz')
      omega
     have hy:(put (h.pages.set K ⟨2,h.space,s,0⟩) (K+1) (kk-1) ⟨3,h.space,0,0⟩)[h.bump.toNat]?=some (h.pages[h.bump.toNat]'(by omega)):=by
      rw [zdn (by rw [List.length_set];omega) (by omega),qaP,if_neg (by omega)];exact hx
     have:=zj9 hy c3
     rwa [show ((h.bump.toNat:Nat):Int)=h.bump by omega]at this
 · rw [if_neg hk]at hok;rw [if_neg hk,if_neg hk];obtain ⟨s1,s4⟩:=zkR p1 hk hn;cases hnb:newB h s
   · obtain ⟨K,x,b1,b2,b3,-,b5,-,b7⟩:=zms hpl h1 hnb;have hKl:=(qah.1 b2).1;have hx1:x.kind=1:=by
      rcases hpl.bp with e | ⟨K',x',e1,e2,e3,-⟩
      · omega
      · obtain rfl:K=K':=by omega
        rw [b2]at e2;cases e2;exact e3
     obtain ⟨u1,u2,u3⟩:=zjZ p6 b2 hx1;have hfit:x.used+s<=h.pw:=by
      have hd:=qa9 hnb;unfold zjm at hd;rw [b1,qad,zar b2]at hd;omega
     obtain ⟨a1,a2⟩:=zfJ (K:=K) (o:=x.used) p1 (by omega) (by omega) (by omega)
     have hmul:(K:Int)*h.pw+h.pw<=h.np*h.pw:=(za1 p1 (by omega) (by omega)).2
     have hK0:0<=(K:Int)*h.pw:=qa4 (by omega) (by omega)
     rw [b5,b7,a2];refine ⟨zoO p1 p2 (by simp only;rw [List.length_set];exact p3) p4 ?_ ?_,rfl,⟨by omega,by omega⟩,qab ⟨by omega,by omega⟩⟩
     · exact zj9 (x:=⟨x.kind,x.space,x.used+s,x.pins⟩) (by simp only;rw [qaP,if_pos rfl,if_pos hKl]) hx1
     · refine zkj p6 b2 (Or.inr hx1) hx1 ?_;unfold zcZ;simp only
       rw [u1,u3,qab (show 0<=x.used+s/\x.used+s<=h.pw by omega)];rfl
   · have hf:zdD h=false:=by
      unfold zb1 at hok;rw [hnb,qaS]at hok;simpa using hok
     obtain ⟨K,-,b2,-,-,⟨y,hy,hy0⟩,-,b5,-,b7⟩:=zoE hpl hnb hf;obtain ⟨a1,a2⟩:=zfJ (K:=K) (o:=0) p1 (by omega) (by omega) (by omega)
     have hmul:(K:Int)*h.pw+h.pw<=h.np*h.pw:=(za1 p1 (by omega) (by omega)).2
     have hK0:0<=(K:Int)*h.pw:=qa4 (by omega) (by omega)
     rw [List.set_set]at b5;rw [b5,b7,a2];refine ⟨zoO p1 p2 (by simp only;rw [List.length_set];exact p3) p4 ?_ ?_,rfl,⟨by omega,by omega⟩,qab ⟨by omega,by omega⟩⟩
     · exact zj9 (x:=⟨1,h.space,0+s,0⟩) (by simp only;rw [qaP,if_pos rfl,if_pos b2]) rfl
     · refine zkj p6 hy (Or.inl hy0) rfl ?_;unfold zcZ;simp only
       rw [p4,show zea 0=true from rfl,qab (show 0<=0+s/\0+s<=h.pw by omega)];rfl
theorem zky(h:Hp)(k n m:Int):zkP h k n m=zdo h (zaT k n m)/\zkQ h k n m=zbT h (zaT k n m)/\znC h k n m=zb6 h (zaT k n m):=by
 unfold zkP zkQ znC zsb zdo zbT zb6;by_cases hb:0<zax h.pw h.np (zaT k n m)
 · simp [hb]
 · simp [hb]
theorem zux{B:Int}(hB:0<=B){h:Hp}(hp:PinL B h.pages)(s:Int):PinL B (zbT h s).pages:=by
 unfold zbT;split
 · show PinL B (zed _ _ _ _ _ _)
   unfold zed;split
   · exact hp.take hB _ _ rfl rfl
   · exact PinL.nil B
 · show PinL B (zf4 (zbH h s) _ _)
   refine PinL.use ?_ hB _ _;unfold zbH;split
   · unfold zcH;split
     · exact hp.take hB _ _ rfl rfl
     · exact PinL.nil B
   · exact hp
theorem zur:zsD:=by
 intro n x k l m hn hm L k1 k3 l0 l1 m0 m1 he;obtain ⟨ha,hr⟩:zgg x.h k l m=true/\zkP x.h k l m=true:=by
  unfold zcz at he;split at he
  · rename_i h1;split at he
    · rename_i h2;exact ⟨h1,h2⟩
    · exact absurd he (by decide)
  · exact absurd he (by decide)
 obtain ⟨e1,e2,e3⟩:=zky x.h k l m;rw [e1]at hr;unfold zgg ziK at ha;simp only [qae,qaa]at ha;obtain ⟨ho,⟨hv,hk0⟩,hnd⟩:=ha;have hs:=zbs hv;have hop:okP x.h=true:=by unfold okP;rw [zce];exact ho
 obtain ⟨q1,q2,q3,q4⟩:=zfk hop (show 1<=zaT k l m by rw [hs];omega) hnd hr
 have hoh:okH (zbT x.h (zaT k l m))=true:=by unfold okP at q1;rw [zce]at q1;exact q1
 have hil:(zch k l m).length=(zaT k l m).toNat:=by rw [zep,hs];omega
 have hka:okA (zbT x.h (zaT k l m)).words.length (zb6 x.h (zaT k l m)) (zch k l m).length=true:=by rw [q2,hil];exact q4
 have hie:zgE (zbT x.h (zaT k l m)) (zb6 x.h (zaT k l m)) k l m=0:=by
  unfold zgE;rw [if_pos ⟨hv,hoh⟩];unfold ze3;rw [if_pos hka]
 have hH:zdu x.h k l m={ zbT x.h (zaT k l m) with words:=zaz (zbT x.h (zaT k l m)).words (zb6 x.h (zaT k l m)) (zch k l m) }:=by
  unfold zdu;rw [if_pos he,e2,e3];unfold zjG;rw [if_pos hie]
 have hA:zfI x.h k l m=zb6 x.h (zaT k l m):=by unfold zfI;rw [if_pos he,e3]
 obtain ⟨p1,p2,p3,-⟩:=zan hoh;unfold putV;rw [hH,hA];refine ⟨p1,?_,p3,fun y hy=>?_,L.wk,?_,by have:=L.wkn;show x.wk.length<=_;omega,fun g hg=>?_⟩
 · show ((zaz _ _ _).length:Int)=_
   rw [zcB hka];exact p2
 · rcases qao.1 hy with h2 | h2
   · exact L.st y h2
   · rw [qau.1 h2];exact q3
 · have:=L.stn
   show (x.st++[zb6 x.h (zaT k l m)]).length<=_
   rw [qaz];simp;omega
 · have:=zux (B:=n) (by omega) L.pins (zaT k l m) g hg
   omega
theorem zpn:∀ n x,Made n x->n<=400->Lens n x:=zwp zur znW
theorem zug(l:List Int)(x:Int):sumW (l++[x])=sumW l+x.toNat:=by
 induction l with
 | nil=>simp [sumW]
 | cons g l ih=>rw [qaJ,sumW,ih,sumW];omega
def zlI:Nat->List Int->List Int
 | _,[]=>[]
 | x,a::r=>((x &&& zil a:Nat):Int)::zlI (x >>> a.toNat) r
theorem zt5(ws:List Int):∀ x,(zlI x ws).length=ws.length:=by
 induction ws with
 | nil=>intro x;rfl
 | cons b r ih=>intro x;rw [zlI,qaO,ih,qaO]
def unpE(x:Nat)(ws:List Int):Int:=if fitL 64 ws=true then (if x >>> sumW ws=0 then 0 else 2) else 1
def unpV(x:Nat)(ws:List Int):List Int:=if fitL 64 ws=true then (if x >>> sumW ws=0 then zlI x ws else []) else []
theorem zuh{ws:List Int}{k:Nat}{a:Int}(h:ws[k]?=some a):sumW (ws.take (k+1))=sumW (ws.take k)+a.toNat:=by
 rw [zbt h,zug]
theorem zr7{n m:Int}(h1:0<=n)(h2:n<=32):m<=zik n↔m<2 ^ n.toNat:=by
 unfold zik;rw [show min n.toNat 64=n.toNat from by omega]
 omega
theorem map_no{n m:Int}(h1:0<=n)(h2:n<=32)(h3:zik n<m):zaD 1 n m=false :=
 zcC fun h=>by have:=(zr7 h1 h2).2 (h.2.2.2.2.1 rfl).2;omega
theorem zgo{k n m:Int}(hk:k=0\/k=2\/k=3)(h:0<=n)(h2:n<=255)(h3:m=0):zaD k n m=true :=
 zgS ⟨by omega,by omega,h,h2,fun c=>by omega,fun _=>h3⟩
end Go.VI.P
